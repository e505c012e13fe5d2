import PyProof.Rows.All
import Wide.All
import OpenK.AllK
import Wide.FinOn
import HandS.ForMost
import HandS.Wide
import HandS.WideMore
import HandS.Conv
import HandS.Zip
import HandS.Walk
import HandS.DictComp
import HandS.Small
import HandS.SortInts
import HandS.Style
import HandS.IsInst
import HandS.TupAny
import HandS.TupLe
import HandS.AnyAll
import HandS.ListItems
import HandS.EndOwn
import HandS.TryOnly
import HandS.Star
import HandS.FStr
import KE.KNestM
import HandS.TupLen
import HandS.Deep
import HandS.ExcOwn
import HandS.WordsExc
import HandS.ExcInit
import HandS.GenList
import PyProof.TupleOfGen
import HandS.TupMul
import KE.GoesNew
import KE.GoesMore
import KE.GoesEnum
import KE.KDictZip
import HandS.Set
import HandS.SetFor
import HandS.Strs
import HandS.List
import KE.SortData
import HandS.OwnEq
import KE.KCallOwn
import KE.KFmtOwn
import PyProof.InstNe
import HandS.Base
import HandS.Call
import HandS.Exc
import HandS.HotCalls
import HandS.Codes
import HandS.Words
import KE.KExcIs
import HandS.Dict
import PySem.Challenge.RW_fairposts_k85_round_and_round
set_option Elab.async false
set_option maxRecDepth 100000
namespace Gx
open PySem PySem.Spec PyProof.Rows L2
theorem over_start {A : Around} {elt : Expr} {gs : List Comprehension} {scope : Scope} {pos : Pos} {it acc : Value} {env : Env} :
    A.over (.compStart (.GeneratorExp elt gs scope pos) 0 it acc env) [] = A.deeper env := by
  obtain ⟨hd, d, fr, g, u⟩ := A
  simp [Around.over, Around.deeper, marksOver, frameCount, unitsOf, envsOf, guardsOf, pushEnvs, pushGuards, Code.envs, Code.env?, Code.isFrame, Code.guards, Code.isGuard, Code.weight, Code.frames, Code.isCreation, Code.isCaller, Code.cUnits]
theorem over_loop0 {A : Around} {elt : Expr} {gs : List Comprehension} {scope : Scope} {pos : Pos} {it acc : Value} {env : Env} :
    A.over (.compLoop (.GeneratorExp elt gs scope pos) 0 it acc env) [] = A.deeper env := by
  obtain ⟨hd, d, fr, g, u⟩ := A
  simp [Around.over, Around.deeper, marksOver, frameCount, unitsOf, envsOf, guardsOf, pushEnvs, pushGuards, Code.envs, Code.env?, Code.isFrame, Code.guards, Code.isGuard, Code.weight, Code.frames, Code.isCreation, Code.isCaller, Code.cUnits]
/-- the context of a generator expression's own frame, made at s -/
abbrev gx (X : Cx) (A : Around) (s : Shared) (H : Hp) (cenv : Env) (fp : List Addr) (pn : List (Addr × Obj)) : Cx :=
  { X with A := A.deeper cenv, s_0 := s, H_0 := H, env := cenv, outer := X.stack, stack := cenv :: X.stack, ex := fp, fn := fun x => cenv.scope.names.lookup x == some .cell, pn := pn, xe := fun _ _ => False }
abbrev gxEnv (X : Cx) (scope : Scope) (s : Shared) (code : Value) : Env := genEnv scope (cellsFrom (s.heap.objs.size + 1) scope.names (cloFrom X.env.cells scope.names [])) s.heap.objs.size code builtinsNs X.env
section
variable {X : Cx} {pins : List (Addr × Obj)} {σ : L2.St} {H : Hp} {s : Shared}
/-- the frame of a generator expression, its cells behind it -/
theorem newEnv_gen {M : Model} {A : Around} {E : Value → Shared → Prop} {scope : Scope} {globals : Addr} {closure : List (Str × Addr)} {it : Value} {qual : Str} {code : Value} {builtins : Addr} {Q : Env → Shared → Prop}
    (h0 : scope.names.lookup (".0" : Str) = some NameKind.local) (hk : scope.kind = .function)
    (hQ : ∀ h', h'.Ns s.heap.objs.size (fun y => if y = ".0" then some it else none) → Heap.SameBut s.heap.objs.size (pushCells (s.heap.push { cls := .type "frame", data := .dict #[] }) scope.names) h' →
      Q (newEnv scope s.heap.objs.size globals (cellsFrom (s.heap.objs.size + 1) scope.names closure) qual none code none builtins) { s with heap := h', toks := s.toks + 1 }) :
    wpAny M A (newFunctionEnv scope globals closure [(".0", it)] qual none code none builtins) Q E s := by
  simp only [newFunctionEnv, Option.isSome_none, Bool.false_eq_true, if_false]
  refine wpAny_bind (wpAny_alloc ?_)
  refine wpAny_bind (wpAny_layCells _ (fun name kind cells => by cases hkc : kind == NameKind.cell <;> simp [hkc]) _ _ _ _ ?_)
  rw [show ({ s with heap := s.heap.push { cls := .type "frame", data := .dict #[] } } : Shared).heap.objs.size = s.heap.objs.size + 1 from Heap.size_push ..]
  rw [List.forIn_cons]
  have ns : (pushCells (s.heap.push { cls := .type "frame", data := .dict #[] }) scope.names).Ns s.heap.objs.size (fun _ => none) := (Heap.Ns.new s.heap (.type "frame")).keeps (pushCells_keeps _ _)
  refine wpAny_bind (wpAny_bind (wpAny_bind (wpAny_storeName_local (show scope.names.lookup (".0" : Str) = some NameKind.local from h0) ns (fun h' hn' hs' => wpAny_pure ?_) (by show (scope.kind == .class || (scope.kind == .module && _)) = false; rw [hk]; rfl))))
  dsimp only
  rw [List.forIn_nil]
  exact wpAny_pure (wpAny_pure (hQ h' hn' hs'))
theorem make_gen {M : Model} {A : Around} {E : Value → Shared → Prop} {env : Env} {elt target iter : Expr} {ifs : List Expr} {scope : Scope} {cl : List (Str × Addr)} {pos : Pos} {Q : Value → Shared → Prop}
    (hco : scope.isCoroutine = false) (hclos : closureFor scope env = pure cl) (h0 : scope.names.lookup (".0" : Str) = some NameKind.local) (hkind : scope.kind = .function)
    (hroom : A.depth < recursionLimit)
    (h : wpAny M A (eval iter env) (fun xv s₁ => wpAny M A (pyIter xv) (fun it s₂ => s₂.heap.NoLimit ∧
      wpAny M A (genexprCode env pos (env.qual ++ "<genexpr>") scope) (fun code s₃ => wpAny M A (builtinsFor env.globals env.builtins) (fun bi s₄ =>
        ∀ h', h'.Ns s₄.heap.objs.size (fun y => if y = ".0" then some it else none) → Heap.SameBut s₄.heap.objs.size (pushCells (s₄.heap.push { cls := .type "frame", data := .dict #[] }) scope.names) h' →
          Q (.ref h'.objs.size) { s₄ with
            gens := s₄.gens.push (.fresh (.compStart (.GeneratorExp elt [⟨target, iter, ifs, 0⟩] scope pos) 0 it .none (genEnv scope (cellsFrom (s₄.heap.objs.size + 1) scope.names cl) s₄.heap.objs.size code bi env))),
            toks := s₄.toks + 1 + 1 + 1,
            heap := h'.push { cls := .type "generator", data := .fields #[.int s₄.gens.size 0, .str "<genexpr>" (s₄.toks + 1), .str (env.qual ++ "<genexpr>") (s₄.toks + 1 + 1)] } }) E s₃) E s₂) E s₁) E s)
    (hs : ∀ x, genFold iter env x = pure x) :
    wpAny M A (eval (.GeneratorExp elt [⟨target, iter, ifs, 0⟩] scope pos) env) Q E s := by
  rw [eval_GeneratorExp1 _ _ _ _ _ _ _ hco, hclos]
  refine wpAny_bind (wpAny_mono h (fun xv s₁ h₁ => ?_) fun _ _ e => e)
  refine wpAny_bind (wpAny_standAt ?_)
  refine wpAny_bind (wpAny_of_eq (hs xv) ?_)
  refine wpAny_bind (wpAny_holding (wpAny_mono h₁ (fun it s₂ h₂ => ?_) fun _ _ e => e))
  refine wpAny_bind (wpAny_enterFrame h₂.1 hroom ?_)
  refine wpAny_bind (wpAny_pure ?_)
  refine wpAny_bind (wpAny_mono h₂.2 (fun code s₃ h₃ => ?_) fun _ _ e => e)
  refine wpAny_bind (wpAny_mono h₃ (fun bi s₄ h₄ => ?_) fun _ _ e => e)
  refine wpAny_bind (newEnv_gen h0 hkind fun h' hn' hs' => ?_)
  simp only [newGenerator, newFields]
  refine wpAny_bind (wpAny_newGen (wpAny_bind (wpAny_mkText (wpAny_bind (wpAny_mkText (wpAny_newObj_type ?_ (by size_fits)))))))
  exact h₄ h' hn' hs'
theorem gx_inv {scope : Scope} {own : List (Str × Nat)} {fp : List Addr} {A : Around} {code : Value} {s5 : Shared} {pn pins5 : List (Addr × Obj)} (I : L2.Inv X pins σ H s) (ok : BlkOk X.N X.env.scope scope own) (hN : X.N.Nodup)
    (hfp : ∀ b ∈ fp, FpOk X pins H b ∧ b < s.heap.objs.size) (hA : A.handled = none) (hfr : A.frames = some X.stack)
    (kpc : ∀ b o, b ≠ s.heap.objs.size → (pushCells (s.heap.push { cls := .type "frame", data := .dict #[] }) scope.names).get? b = some o → s5.heap.get? b = some o) (hn : ∃ m, s5.heap.Ns s.heap.objs.size m) (hos : s5.os = s.os) (hb : AllBare s5.gens)
    (hpin : ∀ p ∈ pn ++ pins5, s5.heap.get? p.1 = some p.2 ∧ H p.1 = none ∧ p.1 ≠ s.heap.objs.size ∧ p.1 ∉ frs X.stack ∧ ∀ v, p.2.data ≠ .cell v) :
    L2.Inv (gx X A s H (gxEnv X scope s code) fp pn) pins5 (wipe σ (own.map (·.2))) H s5 := by
  have kp : ∀ b o, s.heap.get? b = some o → s5.heap.get? b = some o := fun b o e => kpc b o (Nat.ne_of_lt (Heap.lt_size e)) (pushCells_keeps _ _ _ _ (Heap.get?_push_of_some _ e))
  have hfree : ∀ y ∈ scope.names, y.2 = .free → ∃ c, X.env.cells.lookup y.1 = some c := by
    intro y hy e
    exact (ok.free y hy e).elim (fun k => I.ok.has _ (.inl k)) (fun k => I.ok.has _ (.inr k))
  have cm : ∀ {y c}, (y, c) ∈ cloFrom X.env.cells scope.names [] → X.env.cells.lookup y = some c ∧ c < s.heap.objs.size := by
    intro y c hm
    rcases cloFrom_mem hm with z | ⟨h1, rfl⟩
    · cases z
    · obtain ⟨c, hc⟩ := hfree _ h1 rfl
      rw [hc]
      obtain ⟨_, z⟩ := I.cell _ _ hc
      exact ⟨rfl, z.lt⟩
  have hcl : (gxEnv X scope s code).cells = cellsFrom (s.heap.push { cls := .type "frame", data := .dict #[] }).objs.size scope.names (cloFrom X.env.cells scope.names []) := by rw [Heap.size_push]; rfl
  have mem : ∀ {y c}, (gxEnv X scope s code).cells.lookup y = some c → (X.env.cells.lookup y = some c ∧ c < s.heap.objs.size) ∨ (s.heap.objs.size + 1 ≤ c ∧ CellAt (pushCells (s.heap.push { cls := .type "frame", data := .dict #[] }) scope.names) c none) := fun {y c} e => by
    rw [hcl] at e
    rcases cells_mem (PySem.mem_of_lookup e) with hm | ⟨_, h2, h3⟩
    · exact .inl (cm hm)
    · rw [Heap.size_push] at h2
      exact .inr ⟨h2, h3⟩
  have look : ∀ {y}, scope.names.lookup y = some .free → ∃ c, (gxEnv X scope s code).cells.lookup y = some c ∧ X.env.cells.lookup y = some c := fun {y} hl => by
    have hy : (y, NameKind.free) ∈ scope.names := PySem.mem_of_lookup hl
    obtain ⟨c', e'⟩ := mem_lookup (cells_acc (names := scope.names) (n := (s.heap.push { cls := .type "frame", data := .dict #[] }).objs.size) (cloFrom_has (cells := X.env.cells) (acc := []) hy))
    rw [← hcl] at e'
    refine ⟨c', e', ?_⟩
    rw [hcl] at e'
    rcases cells_mem (PySem.mem_of_lookup e') with hm | ⟨h1, _, _⟩
    · exact (cm hm).1
    · have := ok.uniq _ h1
      rw [hl] at this
      cases this
  have okG : (gx X A s H (gxEnv X scope s code) fp pn).Ok := by
    refine ⟨I.ok.mod, ok.kind, I.ok.glob, rfl, Nat.le_refl _, fun y z c e1 e2 => ?_, fun y hy => ?_, fun y c z e => ?_, fun _ => hA, Around.frames_deeper hfr, .inr ⟨rfl, rfl⟩,
      fun b hb => ⟨Nat.ne_of_lt (hfp b hb).2, fun y c e z => ?_⟩, I.bs, Nat.le_trans I.ok.bsz I.sz, fun b o e hb => ?_, fun b hb z => ?_, I.stack, I.stkFree⟩
    · have e1 : (gxEnv X scope s code).cells.lookup y = some c := e1
      have e2 : (gxEnv X scope s code).cells.lookup z = some c := e2
      rw [hcl] at e1 e2
      refine cells_inj (fun p hp => ?_) (fun y z c a b => I.ok.inj y z c (cm a).1 (cm b).1) (PySem.mem_of_lookup e1) (PySem.mem_of_lookup e2)
      rw [Heap.size_push]
      exact Nat.lt_succ_of_lt (cm (y := p.1) (c := p.2) hp).2
    · show ∃ c, (gxEnv X scope s code).cells.lookup y = some c
      rcases hy with hy | hy
      · obtain ⟨c, hm⟩ := cells_has (n := (s.heap.push { cls := .type "frame", data := .dict #[] }).objs.size) (acc := cloFrom X.env.cells scope.names []) (PySem.mem_of_lookup (show scope.names.lookup y = some .cell from hy))
        obtain ⟨c', e'⟩ := mem_lookup hm
        exact ⟨c', by rw [hcl]; exact e'⟩
      · obtain ⟨c, e, _⟩ := look (show scope.names.lookup y = some .free from hy)
        exact ⟨c, e⟩
    · have z : (scope.names.lookup y == some NameKind.cell) = true := z
      have z : scope.names.lookup y = some .cell := by simpa using z
      have e : (gxEnv X scope s code).cells.lookup y = some c := e
      rw [hcl] at e
      rcases cells_mem (PySem.mem_of_lookup e) with hm | ⟨_, h2, _⟩
      · rcases cloFrom_mem hm with hm | ⟨h1, _⟩
        · cases hm
        · have q := ok.uniq _ h1
          rw [z] at q
          cases q
      · rw [Heap.size_push] at h2
        exact Nat.le_of_succ_le h2
    · rcases mem e with ⟨h1, _⟩ | ⟨h1, _⟩
      · exact (hfp b hb).1.2.2.2.2.1 y c h1 z
      · have h2 : s.heap.objs.size + 1 ≤ b := by rw [← z]; exact h1
        exact absurd (Nat.lt_of_lt_of_le (hfp b hb).2 (Nat.le_of_succ_le h2)) (Nat.lt_irrefl _)
    · rcases (hfp b hb).1.2.2.2.1 with z | z
      · exact I.ok.noex b o e z
      · exact absurd (Nat.lt_of_lt_of_le (Heap.lt_size e) (Nat.le_trans I.ok.bsz z)) (Nat.lt_irrefl _)
    · rcases List.mem_cons.mp (I.stkSub b z) with z | z
      · exact (hfp b hb).1.2.1 z
      · exact (hfp b hb).1.2.2.1 z
  obtain ⟨m5, hm5⟩ := hn
  refine ⟨okG, hos, hb, Un.kept kp, ⟨m5, hm5, fun i y av e1 e2 e3 => ?_⟩, fun y c e => ?_, I.hok.fresh (Nat.le_refl _), fun y c e => ?_, hpin, I.hok.kept kp, by rw [wipe_length]; exact I.len⟩
  · obtain ⟨e2, hne⟩ := wipe_some e2
    have fr : scope.names.lookup y = some .free := by
      have no : ∀ k, scope.names.lookup y = some k → k = .local ∨ k = .cell → False := by
        intro k e hh
        rcases ok.own _ (PySem.mem_of_lookup e) hh with e' | e'
        · obtain ⟨p, hp, hpy⟩ := List.mem_map.mp e'
          have e4 := ok.ix p hp
          have e5 : p.1 = y := hpy
          rw [e5] at e4
          exact hne (List.mem_map.mpr ⟨p, hp, nodup_ix hN e4 e1⟩)
        · exact e' (List.mem_of_getElem? e1)
      rcases (show Vis scope y from e3) with z | z | z
      · exact (no _ z (.inl rfl)).elim
      · exact (no _ z (.inr rfl)).elim
      · exact z
    obtain ⟨m, _, hl⟩ := I.loc
    have hvis : Vis X.env.scope y := (ok.free _ (PySem.mem_of_lookup fr) rfl).elim (fun k => .inr (.inl k)) (fun k => .inr (.inr k))
    obtain ⟨u, r, q⟩ := hl i y av e1 e2 hvis
    obtain ⟨c, h1, h2⟩ := look fr
    refine ⟨u, r, .inr ⟨.inr fr, c, h1, ?_⟩⟩
    rcases q with ⟨k, _⟩ | ⟨_, c', e', z⟩
    · have k : X.env.scope.names.lookup y = some .local := k
      rcases ok.free _ (PySem.mem_of_lookup fr) rfl with k' | k' <;> rw [show X.env.scope.names.lookup y = _ from k'] at k <;> cases k
    · rw [h2] at e'
      cases e'
      exact z.keeps kp
  · rcases mem e with ⟨h1, _⟩ | ⟨h1, o, z1, z2⟩
    · obtain ⟨v, z⟩ := I.cell y c h1
      exact ⟨v, z.keeps kp⟩
    · exact ⟨_, o, kpc c o (by omega) z1, z2⟩
  · rcases mem e with ⟨h1, _⟩ | ⟨h1, _⟩
    · exact I.freeC y c h1
    · exact I.hok.fresh (Nat.le_of_succ_le h1)
end
/-- what a generator expression's turns ask: W of the turn, what is left, what is out, the heap -/
def Turns (J : It) (g : TG) (te : TE) (vs : List Nat) (σ : L2.St) (Q : List V → Hp → Prop) (W : Nat → Nat → List V → Hp → Prop) : Prop :=
  ∀ i m ys H, W i m ys H → (J.stop i H ∧ Q ys H) ∨ (J.go i H ∧ ∃ Nx : List V → Hp → Prop, (∀ zs H', Nx zs H' → ∃ m', m' < m ∧ W (i + 1) m' zs H') ∧
    ∀ x H', J.yld i H x H' → g x (wipe σ vs) H' fun σ2 H2 => wipe σ2 vs = wipe σ vs ∧ te σ2 H2 fun y H3 => ys.length < sizeLine ∧ Nx (ys ++ [y]) H3)
def GEnd (X : Cx) (S : Addr) (Q : List V → Hp → Prop) : GenEnd := fun n _ r s => r = .ok .next ∧ ∃ ys σ ip H, n + ys.length = sizeLine ∧ GI X S ip ys σ H s ∧ Q ys H
section
variable {X : Cx} {A : Around} {s : Shared} {H : Hp} {cenv : Env} {fp : List Addr} {pn : List (Addr × Obj)} {S it : Addr} {tn : Nat → Heap → Prop} {J : It} {tg elt iter : Expr} {scope : Scope} {pos : Pos} {g : TG} {te : TE} {vs : List Nat} {σ : L2.St} {Q : List V → Hp → Prop} {W : Nat → Nat → List V → Hp → Prop}
theorem gx_loop (hc : X.calm = true) (T : Turn X.prog X.w X.K tg J fp it tn) (pg : PG (gx X A s H cenv fp pn) tg g) (pe : PE (gx X A s H cenv fp pn) elt te) (hco : cenv.scope.isCoroutine = false)
    (hS : ∀ p ∈ pn, p.1 ≠ S) (hfS : ∀ b ∈ fp, S ≠ b) (hfn : ∀ b ∈ fp, ∀ p ∈ pn, p.1 ≠ b) (ap : Apart (gx X A s H cenv fp pn) S) (turn : Turns J g te vs σ Q W) :
    ∀ (m i n : Nat) (ys : List V) (s₀ s1 : Shared) (H1 : Hp), W i m ys H1 → GI (gx X A s H cenv fp pn) S [] ys (wipe σ vs) H1 s1 → tn i s1.heap → (∀ b ∈ fp, H1 b = none) → n + ys.length = sizeLine →
      Seg (model X.prog X.w) A (GEnd (gx X A s H cenv fp pn) S Q) (GY (gx X A s H cenv fp pn) S) n s₀ (.compLoop (.GeneratorExp elt [⟨tg, iter, [], 0⟩] scope pos) 0 (.ref it) .none cenv)
        ((model X.prog X.w).den (.compLoop (.GeneratorExp elt [⟨tg, iter, [], 0⟩] scope pos) 0 (.ref it) .none cenv)) [] s1 := by
  intro m
  induction m using Nat.strongRecOn with
  | _ m ih =>
    intro i n ys s₀ s1 H1 w1 gi st1 n1 hn
    have ov : A.over (.compLoop (.GeneratorExp elt [⟨tg, iter, [], 0⟩] scope pos) 0 (.ref it) .none cenv) [] = (gx X A s H cenv fp pn).A := over_loop0
    have stat : ∀ {σ' : L2.St} {H' : Hp} {s' : Shared} {acc : Array Value} {c : Nat}, L2.Inv (gx X A s H cenv fp pn) [(S, lstObj acc c)] σ' H' s' → (∀ b ∈ fp, H' b = none) → ∀ b ∈ fp, FpOk (gx X A s H cenv fp pn) [(S, lstObj acc c)] H' b := by
      intro σ' H' s' acc c I' hz b hb
      refine ⟨hz b hb, (I'.ok.exf b hb).1, I'.ok.exfs b hb, .inl hb, fun x c e => (I'.ok.exf b hb).2 x c e, fun p hp => ?_⟩
      rcases List.mem_append.mp hp with z | z
      · exact hfn b hb p z
      · rw [List.mem_singleton.mp z]
        exact hfS b hb
    show Seg _ A _ _ _ s₀ _ ((compTurn (.GeneratorExp elt [⟨tg, iter, [], 0⟩] scope pos) 0 (.ref it) .none cenv).onRaise (leaving cenv)) [] s1
    rw [compTurn_gen, Sem.onRaise_eq_wrap]
    refine seg_bind_wrap (wpAny_standAt ?_)
    obtain ⟨acc, cc, ra, I⟩ := gi
    rcases turn i m ys H1 w1 with ⟨stop, q⟩ | ⟨go, Nx, hNx, step⟩
    · refine seg_bind_wrap ?_
      rw [ov]
      refine wpAny_mono (T.done (gx X A s H cenv fp pn) rfl rfl rfl hc i _ s1 _ H1 _ I (stat I n1) st1 stop) (fun r s6 h6 => ?_) (fun _ _ z => z)
      obtain ⟨rfl, I6⟩ := h6
      exact seg_end (.ok .next) ⟨rfl, ys, _, [], H1, hn, ⟨acc, cc, ra, I6⟩, q⟩
    · refine seg_bind_wrap ?_
      rw [ov]
      refine wpAny_mono (T.item (gx X A s H cenv fp pn) rfl rfl rfl hc i _ s1 _ H1 _ I (stat I n1) st1 go) (fun r s6 h6 => ?_) (fun _ _ z => z)
      obtain ⟨u, rfl, h6⟩ := h6
      refine seg_bind_wrap ?_
      rw [ov]
      refine wpAny_mono h6 (fun _ s7 h7 => ?_) (fun _ _ z => z)
      obtain ⟨x, H7, I7, r7, y7, st7, n7⟩ := h7
      have I7' := I7.pinned (stat I7 n7) (T.obj _ _ st7)
      refine seg_bind_wrap ?_
      rw [ov]
      refine wpAny_mono (pg.run _ s7 _ H7 x u _ I7' r7 (step x H7 y7)) (fun _ s8 h8 => ?_) (fun _ _ z => z.elim)
      obtain ⟨σ8, H8, I8, hw8, q8⟩ := h8
      refine seg_bind_wrap ?_
      simp only [List.forIn_nil]
      refine wpAny_pure ?_
      simp only [if_true]
      have hy : ∀ v, yieldOut cenv v = yieldValue v := fun v => by simp only [yieldOut, hco, Bool.false_eq_true, if_false]
      simp only [hy]
      rw [Sem.bind_eq_wrap', Sem.bind_eq_wrap', Sem.wrap_wrap, Sem.wrap_wrap]
      refine seg_wrap ?_
      rw [ov]
      refine wpAny_mono (pe.run _ s8 σ8 H8 _ I8 q8) (fun yv s9 h9 => ?_) (fun _ _ z => z.elim)
      obtain ⟨y, H9, I9, r9, hlt, nx⟩ := h9
      obtain ⟨n', rfl⟩ : ∃ n', n = n' + 1 := ⟨n - 1, by omega⟩
      have hip : ∀ p ∈ pinsAt fp s7.heap, p.1 ≠ S := fun p hp => (hfS p.1 (of_pinsAt hp).1).symm
      have gi9 : GI (gx X A s H cenv fp pn) S (pinsAt fp s7.heap) ys σ8 H9 s9 := ⟨acc, cc, ra, I9⟩
      refine seg_at (seg_yield rfl rfl rfl ⟨ys, y, pinsAt fp s7.heap, σ8, H9, by omega, r9, gi9, fun s'' sl => ?_⟩)
      obtain ⟨acc2, c2, ra2, I10⟩ := gi9.woken hS hip ap r9 sl
      obtain ⟨m', hm, w'⟩ := hNx _ _ nx
      have pin' : ∀ b ∈ fp, ∀ o, s7.heap.get? b = some o → s''.heap.get? b = some o ∧ H9 b = none := by
        intro b hb o e
        have z := I10.pin (b, o) (List.mem_append_right _ (List.mem_cons_of_mem _ (mem_pinsAt hb e)))
        exact ⟨z.1, z.2.1⟩
      have hl : (wipe σ vs).length = σ8.length := by rw [← hw8, wipe_length]
      refine seg_again rfl (ih m' hm (i + 1) n' (ys ++ [y]) _ s'' H9 w' ⟨acc2, c2, ra2, ?_⟩ (T.keep _ _ _ st7 fun b hb o e => (pin' b hb o e).1) (fun b hb => ?_) (by rw [List.length_append]; show n' + (ys.length + 1) = sizeLine; omega))
      · refine (Inv.unpinned (pins := [(S, lstObj acc2 c2)]) (pl := pinsAt fp s7.heap) I10).weak hl fun j v e => ?_
        rw [← hw8] at e
        exact (wipe_some e).1
      · obtain ⟨o, e, _⟩ := T.obj _ _ st7 b hb
        exact (pin' b hb o e).2
end
section
variable {X : Cx} {A : Around} {s : Shared} {H : Hp} {cenv : Env} {fp : List Addr} {pn : List (Addr × Obj)} {S it : Addr} {tn : Nat → Heap → Prop} {J : It} {tg elt iter : Expr} {scope : Scope} {pos : Pos} {g : TG} {te : TE} {vs : List Nat} {σ : L2.St} {Q : List V → Hp → Prop} {W : Nat → Nat → List V → Hp → Prop}
theorem gx_start (hc : X.calm = true) (T : Turn X.prog X.w X.K tg J fp it tn) (pg : PG (gx X A s H cenv fp pn) tg g) (pe : PE (gx X A s H cenv fp pn) elt te) (hco : cenv.scope.isCoroutine = false)
    (hS : ∀ p ∈ pn, p.1 ≠ S) (hfS : ∀ b ∈ fp, S ≠ b) (hfn : ∀ b ∈ fp, ∀ p ∈ pn, p.1 ≠ b) (ap : Apart (gx X A s H cenv fp pn) S) (turn : Turns J g te vs σ Q W)
    {m : Nat} {s₀ s1 : Shared} {H1 : Hp} (w0 : W 0 m [] H1) (gi : GI (gx X A s H cenv fp pn) S [] [] (wipe σ vs) H1 s1) (st : tn 0 s1.heap) (n1 : ∀ b ∈ fp, H1 b = none) :
    Seg (model X.prog X.w) A (GEnd (gx X A s H cenv fp pn) S Q) (GY (gx X A s H cenv fp pn) S) sizeLine s₀ (.compStart (.GeneratorExp elt [⟨tg, iter, [], 0⟩] scope pos) 0 (.ref it) .none cenv)
      ((model X.prog X.w).den (.compStart (.GeneratorExp elt [⟨tg, iter, [], 0⟩] scope pos) 0 (.ref it) .none cenv)) [] s1 := by
  have loop := gx_loop (iter := iter) (scope := scope) (pos := pos) hc T pg pe hco hS hfS hfn ap turn m 0 sizeLine [] s₀ s1 H1 w0 gi st n1 (Nat.add_zero _)
  show Seg _ A _ _ _ s₀ _ ((compStart (.GeneratorExp elt [⟨tg, iter, [], 0⟩] scope pos) 0 (.ref it) .none cenv).onRaise (leaving cenv)) [] s1
  unfold compStart
  rw [Sem.onRaise_eq_wrap]
  show Seg _ A _ _ _ s₀ _ ((ask >>= _).wrap _ _ _ _) [] s1
  refine seg_bind_wrap (wpAny_askSetting ?_)
  split
  · exact seg_again rfl loop
  · first
    | exact seg_bind_wrap (wpAny_rule (seg_bind_wrap (wpAny_standAt (seg_bind_wrap (T.self _ 0 s1 _ _ st (seg_again rfl loop))))))
    | (refine seg_bind_wrap (wpAny_rule ?_)
       show Seg _ A _ _ _ s₀ _ ((standAt iter.pos >>= _).wrap _ _ _ _) [] s1
       exact seg_bind_wrap (wpAny_standAt (seg_bind_wrap (T.self _ 0 s1 _ _ st (seg_again rfl loop)))))
end
section
variable {X : Cx} {pins : List (Addr × Obj)} {σ : L2.St} {H : Hp} {s : Shared}
/-- a generator that stands ready: its frame at the size of s, its object behind it -/
theorem gx_made {scope : Scope} {own : List (Str × Nat)} {fp : List Addr} {code : Value} {it : Addr} {tn : Nat → Heap → Prop} {J : It} {tg elt iter : Expr} {pos : Pos} {g : TG} {te : TE} {Q : List V → Hp → Prop} {W : Nat → Nat → List V → Hp → Prop} {k m : Nat}
    (I : L2.Inv X pins σ H s) (ok : BlkOk X.N X.env.scope scope own) (hN : X.N.Nodup) (hco : scope.isCoroutine = false) (hc : X.calm = true)
    (T : Turn X.prog X.w X.K tg J fp it tn) (st : tn 0 s.heap) (hfp : ∀ b ∈ fp, FpOk X pins H b ∧ b < s.heap.objs.size)
    (pg : ∀ A pn, PG (gx X A s H (gxEnv X scope s code) fp pn) tg g) (pe : ∀ A pn, Room k A → PE (gx X A s H (gxEnv X scope s code) fp pn) elt te)
    (w0 : W 0 m [] H) (turn : Turns J g te (own.map (·.2)) σ Q W) {h' : Heap} {go : Obj} {nm qn : Value} {tk : Nat} {mC : Str → Option Value}
    (hC : h'.Ns s.heap.objs.size mC) (hsz : s.heap.objs.size + 1 ≤ h'.objs.size) (kpc : ∀ b o, b ≠ s.heap.objs.size → (pushCells (s.heap.push { cls := .type "frame", data := .dict #[] }) scope.names).get? b = some o → h'.get? b = some o)
    (hgc : go.cls = .type "generator") (hgd : go.data = .fields #[.int s.gens.size 0, nm, qn]) (hgs : go.slots = #[]) (hgp : (h'.push go).get? h'.objs.size = some go) :
    GMade X.prog X.w k X.stack H s fp Q E0 (.ref h'.objs.size) { s with gens := s.gens.push (.fresh (.compStart (.GeneratorExp elt [⟨tg, iter, [], 0⟩] scope pos) 0 (.ref it) .none (gxEnv X scope s code))), toks := tk, heap := h'.push go } := by
  have kp : ∀ b o, s.heap.get? b = some o → h'.get? b = some o := fun b o e => kpc b o (Nat.ne_of_lt (Heap.lt_size e)) (pushCells_keeps _ _ _ _ (Heap.get?_push_of_some _ e))
  have isg : ∀ h : Heap, h.get? h'.objs.size = some go → h.IsGen h'.objs.size s.gens.size := fun h e => ⟨go, nm, qn, e, hgc, hgd, hgs⟩
  have kp5 : ∀ b o, s.heap.get? b = some o → (h'.push go).get? b = some o := fun b o e => Heap.get?_push_of_some _ (kp b o e)
  refine ⟨h'.objs.size, s.gens.size, _, rfl, by omega, ?_, isg _ hgp, Array.getElem?_push_size .., rfl, AllBare.push I.bare rfl, I.nolimit.keeps kp5, kp5, ?_⟩
  · show _ < (h'.push go).objs.size
    rw [Heap.size_push]
    exact Nat.lt_succ_self _
  · intro Aw S s2 room hfr hSz hk2 hSo hos hba
    obtain ⟨cS, heS⟩ := hSo
    have hk2' : ∀ b o, (h'.push go).get? b = some o → s2.heap.get? b = some o := hk2
    have hSz' : h'.objs.size + 1 ≤ S := by
      have z : (h'.push go).objs.size ≤ S := hSz
      rw [Heap.size_push] at z
      exact z
    have ea : s2.heap.get? h'.objs.size = some go := hk2' _ _ hgp
    have lS : s.heap.objs.size < S := by omega
    have lH : h'.objs.size < S := by omega
    have lh : s.heap.objs.size < h'.objs.size := by omega
    have young : ∀ b, s.heap.objs.size < b → H b = none ∧ b ≠ s.heap.objs.size ∧ b ∉ frs X.stack := by
      intro b hb
      refine ⟨I.hok.fresh (Nat.le_of_lt hb), Nat.ne_of_gt hb, fun z => ?_⟩
      rcases List.mem_cons.mp (I.stkSub b z) with z | z
      · rw [z] at hb
        exact absurd (Nat.lt_trans hb I.lt) (Nat.lt_irrefl _)
      · exact I.nofs (Nat.le_of_lt hb) z
    have pinOk : ∀ p ∈ [(h'.objs.size, go)] ++ [(S, lstObj #[] cS)], s2.heap.get? p.1 = some p.2 ∧ H p.1 = none ∧ p.1 ≠ s.heap.objs.size ∧ p.1 ∉ frs X.stack ∧ ∀ v, p.2.data ≠ .cell v := by
      intro p hp
      rcases List.mem_append.mp hp with z | z
      · rw [List.mem_singleton.mp z]
        obtain ⟨y1, y2, y3⟩ := young h'.objs.size (by omega)
        exact ⟨ea, y1, y2, y3, fun v q => by rw [show go.data = _ from hgd] at q; cases q⟩
      · rw [List.mem_singleton.mp z]
        obtain ⟨y1, y2, y3⟩ := young S (by omega)
        exact ⟨heS, y1, y2, y3, fun v q => by cases q⟩
    have I2 := gx_inv (own := own) (code := code) (A := Aw) (pn := [(h'.objs.size, go)]) (pins5 := [(S, lstObj #[] cS)]) I ok hN hfp room.hd hfr (fun b o hb e => hk2' b o (Heap.get?_push_of_some _ (kpc b o hb e)))
      ⟨mC, hC.keeps fun b o e => hk2' b o (Heap.get?_push_of_some _ e)⟩ hos hba pinOk
    have hcell : ∀ x c, (gxEnv X scope s code).cells.lookup x = some c → c < h'.objs.size := by
      intro x c e
      have hcl : (gxEnv X scope s code).cells = cellsFrom (s.heap.push { cls := .type "frame", data := .dict #[] }).objs.size scope.names (cloFrom X.env.cells scope.names []) := by rw [Heap.size_push]; rfl
      rw [hcl] at e
      rcases cells_mem (PySem.mem_of_lookup e) with hm | ⟨_, h2, o, z1, z2⟩
      · rcases cloFrom_mem hm with z2 | ⟨h1, rfl⟩
        · cases z2
        · obtain ⟨c2, hc2⟩ : ∃ c2, X.env.cells.lookup x = some c2 := (ok.free _ h1 rfl).elim (fun k => I.ok.has _ (.inl k)) (fun k => I.ok.has _ (.inr k))
          obtain ⟨_, z3⟩ := I.cell _ _ hc2
          rw [hc2]
          exact Nat.lt_trans z3.lt lh
      · rw [Heap.size_push] at h2
        exact Heap.lt_size (kpc c o (by omega) z1)
    have ap : Apart (gx X Aw s H (gxEnv X scope s code) fp [(h'.objs.size, go)]) S := ⟨by show s.heap.objs.size ≤ S; omega, Nat.ne_of_gt lS, fun x c e => Nat.ne_of_lt (Nat.lt_of_lt_of_le (hcell x c e) (by omega))⟩
    have seg := gx_start (iter := iter) (scope := scope) (pos := pos) (S := S) (s₀ := s2) hc T (pg Aw [(h'.objs.size, go)]) (pe Aw [(h'.objs.size, go)] room) hco (fun p hp => by rw [List.mem_singleton.mp hp]; exact Nat.ne_of_lt lH)
      (fun b hb => Nat.ne_of_gt (Nat.lt_trans (hfp b hb).2 lS)) (fun b hb p hp => by rw [List.mem_singleton.mp hp]; exact Nat.ne_of_gt (Nat.lt_trans (hfp b hb).2 lh)) ap turn w0 ⟨#[], cS, .nil, I2⟩
      (T.keep _ _ _ st fun b _ o e => hk2' b o (kp5 b o e)) (fun b hb => (hfp b hb).1.1)
    refine seg_imp (fun n s₀ r s1 hR => ?_) (fun n s₀ v s1 kap kap' hkk hY => ?_) sizeLine seg
    · obtain ⟨rfl, ys, σ', ip, H', hn, gi, hq⟩ := hR
      obtain ⟨a1, _, _, acc, cc, ra, ea⟩ := gi.at
      obtain ⟨_, _, _, J1⟩ := gi
      exact .inl ⟨.inr rfl, H', ys, acc, cc, J1.os, J1.bare, J1.base, J1.hok, a1, ea, ra, by omega, hq⟩
    · obtain ⟨ys, xx, ip, σ', H', hn, h2, gi, h3⟩ := hY
      obtain ⟨_, _, _, acc, cc, ra, ea⟩ := gi.at
      obtain ⟨_, _, _, J1⟩ := gi
      have hg : s1.heap.IsGen h'.objs.size s.gens.size := isg _ (J1.pin (h'.objs.size, go) (List.mem_append_left _ (List.mem_singleton.mpr rfl))).1
      have len : acc.size = ys.length := by
        have e1 := ra.length
        have e2 : acc.toList.length = acc.size := by simp
        omega
      exact ⟨J1.os, J1.bare, J1.nolimit, hg, ⟨acc, cc, ea, by rw [len]; exact hn⟩, fun s' z => hkk _ _ (h3 s' z)⟩
end
/-! ### tuple(generator) -/
section
variable {P : Program} {w : World} {outer : List Env} {H : Hp} {sc s : Shared} {ex : List Addr} {Q : List V → Hp → Prop} {A : Around} {k : Nat} {E : Value → Shared → Prop}
theorem collect_made {u : Value} {Qc : List Value → Shared → Prop} (hr : Room (k + 3) A) (hfr : A.frames = some outer) (h : GMade P w k outer H sc ex Q E0 u s)
    (hQ : ∀ (s' : Shared) (acc : List Value) (H' : Hp) (ys : List V), L2.Vals ys acc → ys.length ≤ sizeLine → s'.os = sc.os → AllBare s'.gens → Un (frs outer) ex H H' sc.heap s'.heap → HOk P w H' s'.heap → Q ys H' → Qc acc s')
    (hexc : ∀ e s', ¬ CX P w outer H sc E0 e s') : wpAny (model P w) A (collect u) Qc E s := by
  obtain ⟨a, g, c, rfl, ha1, ha2, hg, hgs, hos, hb, hl, hkp, wake⟩ := h
  have hSa : s.heap.objs.size ≠ a := Nat.ne_of_gt ha2
  have hSc : s.heap.objs.size ≠ cStatics := Nat.ne_of_gt (let ⟨_, hn, _⟩ := hl; hn.lt)
  unfold collect
  refine wpAny_bind (wpAny_runValue (codeAny_builtin F.entry_proto_collect ?_))
  rw [Around.under_plainId F.plain_proto_collect _]
  show wpAny _ A.in1 (newList [] >>= fun l0 => again (.builtin "list.__iadd__" ⟨[l0, .ref a], []⟩)) _ _ s
  refine wpAny_bind (wpAny_newObj_type ?_)
  refine wpAny_pure ⟨plainId_quiet F.plain_list_iadd _, codeAny_builtin F.entry_list_iadd ?_⟩
  rw [Around.under_plainId F.plain_list_iadd _]
  show wpAny _ A.in1 (Builtin.List.listExtendWith (.ref s.heap.objs.size) (.ref a) (.ref s.heap.objs.size)) _ _ _
  unfold Builtin.List.listExtendWith
  have up : ∀ (h : Heap) (f : Obj → Obj), (∀ b o, s.heap.get? b = some o → h.get? b = some o) → ∀ b o, s.heap.get? b = some o → (h.update s.heap.objs.size f).get? b = some o := by
    intro h f q b o e
    exact (Heap.get?_update_other _ _ (Ne.symm (Nat.ne_of_lt (Heap.lt_size e)))).trans (q b o e)
  have k1 : ∀ b o, s.heap.get? b = some o → (s.heap.push { cls := .type "list", data := .seq ([] : List Value).toArray }).get? b = some o := fun b o e => Heap.get?_push_of_some _ e
  have isg : ∀ {h : Heap}, (∀ b o, s.heap.get? b = some o → h.get? b = some o) → h.IsGen a g := fun q => hg.keeps q
  refine wpAny_bind (wpAny_typeOf (Heap.IsGen.typeIs (s := { s with heap := _ }) (isg k1)) ?_)
  have h1 : Builtin.List.listSameRef (.ref s.heap.objs.size) (.ref a) = false := by simp [Builtin.List.listSameRef, hSa]
  have h2 : (Value.type "generator" == Value.type "list") = false := by decide
  have h3 : (Value.type "generator" == Value.type "tuple") = false := by decide
  simp only [h1, h2, h3, Bool.or_false, Bool.false_eq_true, if_false]
  refine wpAny_bind (wpAny_pyIter_gen (s := { s with heap := _ }) (isg k1) ?_)
  refine wpAny_bind (wpAny_holding ?_)
  unfold Builtin.List.listLengthHint
  refine wpAny_bind (wpAny_specialOf (Heap.IsGen.typeIs (s := { s with heap := _ }) (isg k1)) F.gen_no_len ?_)
  show wpAny _ A.in1 (specialOf (Value.ref a) (Str.ofString "__length_hint__") >>= _) _ _ _
  refine wpAny_bind (wpAny_specialOf (Heap.IsGen.typeIs (s := { s with heap := _ }) (isg k1)) F.gen_no_hint ?_)
  refine wpAny_pure ?_
  show wpAny _ A.in1 (rule "list.extend.makes-room" >>= fun _ => Builtin.List.listTouch (.ref s.heap.objs.size) >>= fun _ => again (.builtin "list.extend.loop" ⟨[.ref s.heap.objs.size, .ref a, .ref s.heap.objs.size], []⟩)) _ _ _
  refine wpAny_bind (wpAny_rule (wpAny_bind ?_))
  have hS1 : (s.heap.push { cls := .type "list", data := .seq ([] : List Value).toArray }).get? s.heap.objs.size = some { cls := .type "list", data := .seq ([] : List Value).toArray } := Heap.get?_push_size _ rfl
  show wpAny _ A.in1 (updateSeq s.heap.objs.size (·.push .none) >>= fun _ => updateSeq s.heap.objs.size (·.pop)) _ _ _
  refine wpAny_bind (wpAny_updateSeq hS1 rfl ?_)
  have hS2 := Heap.get?_update_self (Obj.mapSeq (·.push Value.none)) hS1 rfl
  refine wpAny_updateSeq hS2 rfl ?_
  have hS3 := Heap.get?_update_self (Obj.mapSeq (·.pop)) hS2 rfl
  have k3 := up _ (Obj.mapSeq (·.pop)) (up _ (Obj.mapSeq (·.push Value.none)) k1)
  refine wpAny_pure ⟨plainId_quiet F.plain_extend_loop _, ?_⟩
  refine drain (P := P) (w := w) (outer := outer) (H := H) (sc := sc) (ex := ex) (Q := Q) (EX := E0) (A := A) (g := g) hr.hd (by have := hr.dp; show A.depth < _; omega) hSa hSc
    (fun s' acc c H' ys q1 q2 q3 q4 q5 q6 q7 q8 q9 => ?_) (fun e s' z => (hexc e s' z).elim) sizeLine _ (isg k3) (hl.keeps k3) ⟨_, hgs, rfl, ?_⟩
  · show wpAny _ A (load s.heap.objs.size >>= _) _ _ s'
    refine wpAny_bind (wpAny_load q1 ?_)
    exact wpAny_pure (hQ s' acc.toList H' ys q2 q3 q4 q5 q6 q7 q9)
  · refine wake _ _ _ ⟨hr.hd, ?_, ?_⟩ hfr (Nat.le_refl _) k3 ⟨_, hS3⟩ hos (allBare_setGen (s := { s with heap := _ }) hb rfl)
    · have := hr.dp
      show A.depth + 3 * k + 5 < _
      omega
    · have := hr.un
      show A.units + 1 + 1 + 16 * k + 200 < _
      omega
theorem tuple_new_made {u : Value} {Q1 : Value → Shared → Prop} (hr : Room (k + 4) A) (hfr : A.frames = some outer) (h : GMade P w k outer H sc ex Q E0 u s)
    (hQ : ∀ (s' : Shared) (acc : List Value) (H' : Hp) (ys : List V), L2.Vals ys acc → ys.length ≤ sizeLine → s'.os = sc.os → AllBare s'.gens → Un (frs outer) ex H H' sc.heap s'.heap → HOk P w H' s'.heap → Q ys H' →
      Q1 (.ref s'.heap.objs.size) { s' with heap := s'.heap.push { cls := .type "tuple", data := .seq acc.toArray } })
    (hexc : ∀ e s', ¬ CX P w outer H sc E0 e s') : codeAny (model P w) A (.call (.builtin "tuple.__new__") ⟨[.type "tuple", u], []⟩) (wants Q1 E) s := by
  obtain ⟨a, g, c, ea, _, _, hg, _⟩ := id h
  subst ea
  refine codeAny_of_tree ?_
  show wpAny _ A.in1 (do checkBuiltinCall "tuple.__new__" ⟨[.type "tuple", .ref a], []⟩; again (.builtin "tuple.__new__" ⟨[.type "tuple", .ref a], []⟩)) _ _ s
  refine wpAny_bind (wpAny_of_eq (F.newCall_tuple_1 _) (wpAny_pure ⟨plainId_quiet F.plain_tuple_new _, codeAny_builtin F.entry_tuple_new ?_⟩))
  rw [Around.under_plainId F.plain_tuple_new _]
  have hsub := sub_tuple_self
  have hinit := init_tuple_lookup
  have hmh := madeHere_tuple
  have hTI := hg.typeIs
  have hr1 : Room (k + 3) A.in1 := hr.in1
  wp_walk using wpAny_typeOf hTI, collect_made hr1 hfr h
  · intro s' acc H' ys q1 q2 q3 q4 q5 q6 q7
    show wpAny _ _ (Builtin.Tuple.tupleExact acc.toArray >>= fun v => ret v) _ _ _
    unfold Builtin.Tuple.tupleExact
    refine wpAny_bind (wpAny_newObj_type ?_ (by show acc.toArray.size ≤ sizeLine; rw [List.size_toArray, ← q1.length]; exact q2))
    exact wpAny_pure (hQ s' acc H' ys q1 q2 q3 q4 q5 q6 q7)
  · exact hexc
theorem call_tuple_made {u : Value} {Q' : Value → Shared → Prop} (hr : Room (k + 5) A) (hfr : A.frames = some outer) (h : GMade P w k outer H sc ex Q E0 u s)
    (hQ : ∀ (s' : Shared) (acc : List Value) (H' : Hp) (ys : List V), L2.Vals ys acc → ys.length ≤ sizeLine → s'.os = sc.os → AllBare s'.gens → Un (frs outer) ex H H' sc.heap s'.heap → HOk P w H' s'.heap → Q ys H' →
      Q' (.ref s'.heap.objs.size) { s' with heap := s'.heap.push { cls := .type "tuple", data := .seq acc.toArray } })
    (hexc : ∀ e s', ¬ CX P w outer H sc E0 e s') : wpAny (model P w) A (call (.type "tuple") [u]) Q' E s := by
  refine callType_codes (Q₁ := fun obj s₁ => s₁.TypeIs obj "tuple" ∧ Q' obj s₁) F.called_tuple (F.typeCall_tuple_1 _) F.entry_object_init
    (tuple_new_made hr.in1 hfr h (fun s' acc H' ys q1 q2 q3 q4 q5 q6 q7 => ⟨⟨_, Heap.get?_push_size _ rfl, rfl⟩, hQ s' acc H' ys q1 q2 q3 q4 q5 q6 q7⟩) hexc) fun obj s₁ h₁ => ?_
  exact ⟨h₁.1, F.args_object_init_2 obj _, object_init_meets F.called_tuple.init.lookup F.called_tuple.made (by decide) P w A.in1 _ s₁ ⟨h₁.1, rfl, h₁.2⟩⟩
end
/-! ### the expression tuple(e for x in xs) -/
def tTupGx (P : Addr) (wi : TI) (g : TG) (te : TE) (vs : List Nat) : TE := fun σ H Q => wi σ H fun J H1 => GxR.TabG H1 P ∧ ∀ H2, GxR.Tabbed P H1 H2 →
  ∃ W : Nat → Nat → List V → Hp → Prop, (∃ m, W 0 m [] H2) ∧ Turns J g te vs σ (fun ys H' => ∀ p, H' p = none → Q (.ref p) (upd H' p (.tup ys))) W
section
variable {X : Cx}
theorem gx_eval {k : Nat} {c P : Addr} {elt tg iter : Expr} {scope : Scope} {own : List (Str × Nat)} {gpos : Pos} {wi : TI} {g : TG} {te : TE} {pins : List (Addr × Obj)} {s : Shared} {σ : L2.St} {H : Hp} {R : List V → Hp → Prop} {Q' : Value → Shared → Prop} (hc : X.calm = true) (hr : Room (k + 5) X.A) (hN : X.N.Nodup)
    (TB : GxR.TabB X.base X.mg c P) (hcode : X.env.code = .ref c) (hi : PI X tg iter wi) (ok : BlkOk X.N X.env.scope scope own) (hco : scope.isCoroutine = false) (dot : scope.names.lookup (".0" : Str) = some NameKind.local)
    (pg : ∀ (A : Around) (s : Shared) (H : Hp) (code : Value) (fp : List Addr) (pn : List (Addr × Obj)), PG (gx X A s H (gxEnv X scope s code) fp pn) tg g)
    (pe : ∀ (A : Around) (s : Shared) (H : Hp) (code : Value) (fp : List Addr) (pn : List (Addr × Obj)), Room k A → PE (gx X A s H (gxEnv X scope s code) fp pn) elt te)
    (hs : ∀ v, genFold iter X.env v = pure v) (I : L2.Inv X pins σ H s)
    (h : wi σ H fun J H1 => GxR.TabG H1 P ∧ ∀ H2, GxR.Tabbed P H1 H2 → ∃ W : Nat → Nat → List V → Hp → Prop, (∃ m, W 0 m [] H2) ∧ Turns J g te (own.map (·.2)) σ R W)
    (hQ : ∀ (u : Value) (s5 sc : Shared) (H2 : Hp) (fp : List Addr), L2.Inv X pins σ H2 sc → (∀ b ∈ fp, FpOk X pins H2 b) → GMade X.prog X.w k X.stack H2 sc fp R E0 u s5 → Q' u s5) :
    wpAny (model X.prog X.w) X.A (eval (.GeneratorExp elt [⟨tg, iter, [], 0⟩] scope gpos) X.env) Q' X.xe s := by
  have hfree : ∀ y ∈ scope.names, y.2 = .free → ∃ c, X.env.cells.lookup y.1 = some c := by
    intro y hy e
    exact (ok.free y hy e).elim (fun k => I.ok.has _ (.inl k)) (fun k => I.ok.has _ (.inr k))
  refine make_gen hco (closure_ok hfree) dot ok.kind (by have := hr.dp; omega) ?_ hs
  refine thn (hi.run pins s σ H _ I h) fun xv s1 h1 => thn h1 fun itv s2 h2 => ?_
  obtain ⟨it, fp, tn, J, H1, e, I2, T, st2, f2, ⟨ps, hP, ht⟩, q⟩ := h2
  subst e
  have hPs : s2.heap.get? P = some { cls := .none, data := .fields ps } := I2.hok P _ hP
  have cd : PySem.W.CodeHd s2.heap c P := TB.code.keeps I2.bk
  have nP : ∀ b ∈ fp, b ≠ P := fun b hb z => by
    have y := (f2 b hb).1
    rw [z, hP] at y
    cases y
  have hcP : cStatics ≠ P := fun e => by
    obtain ⟨_, hns, _⟩ := I2.nolimit
    obtain ⟨o', es, ep, ho, hd, _⟩ := hns
    rw [e, hPs] at ho
    cases ho
    cases hd
  refine ⟨I2.nolimit, ?_⟩
  have cont : ∀ (code : Value) (h3 : Heap) (tk : Nat) (ps' : Array Value), Heap.ExtBut P s2.heap h3 → s2.heap.objs.size ≤ h3.objs.size → h3.get? P = some { cls := .none, data := .fields ps' } → (∃ more, ps' = ps ++ more) → TriplesOk ps'.toList →
      wpAny (model X.prog X.w) X.A (builtinsFor X.env.globals X.env.builtins) (fun bi s₄ => ∀ h', h'.Ns s₄.heap.objs.size (fun y => if y = ".0" then some (Value.ref it) else none) → Heap.SameBut s₄.heap.objs.size (pushCells (s₄.heap.push { cls := .type "frame", data := .dict #[] }) scope.names) h' →
        Q' (Value.ref h'.objs.size) ({ s₄ with
          gens := s₄.gens.push (.fresh (.compStart (.GeneratorExp elt [⟨tg, iter, [], 0⟩] scope gpos) 0 (.ref it) .none (genEnv scope (cellsFrom (s₄.heap.objs.size + 1) scope.names (cloFrom X.env.cells scope.names [])) s₄.heap.objs.size code bi X.env))),
          toks := s₄.toks + 1 + 1 + 1,
          heap := h'.push { cls := .type "generator", data := .fields #[.int s₄.gens.size 0, .str "<genexpr>" (s₄.toks + 1), .str (X.env.qual ++ "<genexpr>") (s₄.toks + 1 + 1)] } } : Shared)) X.xe { s2 with heap := h3, toks := tk } := by
    intro code h3 tk ps' hx hsz hP3 hmore ht3
    obtain ⟨bm, ob, e1, e2, e3, e4, e5, e6, e7, e8⟩ := TB.bm
    have keep3 : ∀ b u, b ≠ P → s2.heap.get? b = some u → h3.get? b = some u := fun b u hb e => hx b u hb e
    refine wpAny_builtinsFor (m := X.mg) (by rw [I2.ok.glob]; exact (I2.mod.glob.keeps I2.bk).extBut hx TB.gP) e1 e2 (keep3 _ _ e4 (I2.bk _ _ e5)) e6 e7 e8 ?_
    intro h' hn' hs'
    obtain ⟨more, em⟩ := hmore
    have I3 : L2.Inv X pins σ (upd H1 P (.tbl (ps ++ more))) { s2 with heap := h3, toks := tk } :=
      GxR.inv_tab (more := more) (h' := h3) (g' := s2.gens) (d' := s2.drawn) (t' := tk) I2 hP keep3 (by rw [← em]; exact hP3) I2.bare
    obtain ⟨W, ⟨m, w0⟩, turn⟩ := q _ (show GxR.Tabbed P H1 (upd H1 P (.tbl (ps ++ more))) from ⟨⟨ps ++ more, upd_same, by rw [← em]; exact ht3⟩, fun b hb => upd_ne hb⟩)
    have fp3 : ∀ b ∈ fp, FpOk X pins (upd H1 P (.tbl (ps ++ more))) b ∧ b < h3.objs.size := by
      intro b hb
      obtain ⟨o, eo, _⟩ := T.obj _ _ st2 b hb
      refine ⟨⟨by rw [upd_ne (nP b hb)]; exact (f2 b hb).1, (f2 b hb).2⟩, Nat.lt_of_lt_of_le (Heap.lt_size eo) hsz⟩
    have st3 : tn 0 h3 := T.keep _ _ _ st2 fun b hb o e => keep3 b o (nP b hb) e
    have hsz' : h3.objs.size + 1 ≤ h'.objs.size := by
      rw [hs'.1]
      refine Nat.le_trans ?_ (pushCells_size _ _)
      rw [Heap.size_push]
      exact Nat.le_refl _
    have kp' : ∀ b o, b ≠ h3.objs.size → (pushCells (h3.push { cls := .type "frame", data := .dict #[] }) scope.names).get? b = some o → h'.get? b = some o := fun b o hb e => hs'.extBut b o hb e
    have made := gx_made (k := k) (own := own) (code := code) (iter := iter) (pos := gpos) (tk := tk + 1 + 1 + 1) I3 ok hN hco hc T st3 fp3 (fun A pn => pg A _ _ code fp pn) (fun A pn hq => pe A _ _ code fp pn hq) w0 turn hn' hsz' kp'
      (go := { cls := .type "generator", data := .fields #[.int s2.gens.size 0, .str "<genexpr>" (tk + 1), .str (X.env.qual ++ "<genexpr>") (tk + 1 + 1)] }) rfl rfl rfl (Heap.get?_push_size _ rfl)
    exact hQ _ _ _ _ fp I3 (fun b hb => (fp3 b hb).1) made
  cases hf : codeAmong gpos ps.toList with
  | none =>
    refine wpAny_genexprCodeX hcode (cd.code hPs ht) (cd.tab hPs) hf fun c' h' tk hx hge hlt hco' _ htab' _ => ?_
    obtain ⟨o1, vs, f1, tf, fl, tg', inF, tx, tt, op, _, _, _, _, _, _, _, _, _, htr, _⟩ := hco'
    exact cont _ h' tk _ hx (Nat.le_trans hge (Nat.le_of_lt hlt)) htab'.2 ⟨_, rfl⟩ htr
  | some cv =>
    refine wpAny_genexprCode_hit hcode (cd.code hPs ht) hf ?_
    exact cont cv s2.heap s2.toks ps (Heap.ExtBut.refl _ _) (Nat.le_refl _) hPs ⟨#[], by simp⟩ ht
theorem pe_tupGx {k : Nat} {c P : Addr} {elt tg iter : Expr} {scope : Scope} {own : List (Str × Nat)} {p pos gpos : Pos} {wi : TI} {g : TG} {te : TE} (hc : X.calm = true) (hr : Room (k + 5) X.A) (hN : X.N.Nodup) (hg : Gl X "tuple") (hm : X.mg "tuple" = none)
    (TB : GxR.TabB X.base X.mg c P) (hcode : X.env.code = .ref c) (hi : PI X tg iter wi) (ok : BlkOk X.N X.env.scope scope own) (hco : scope.isCoroutine = false) (dot : scope.names.lookup (".0" : Str) = some NameKind.local)
    (pg : ∀ (A : Around) (s : Shared) (H : Hp) (code : Value) (fp : List Addr) (pn : List (Addr × Obj)), PG (gx X A s H (gxEnv X scope s code) fp pn) tg g)
    (pe : ∀ (A : Around) (s : Shared) (H : Hp) (code : Value) (fp : List Addr) (pn : List (Addr × Obj)), Room k A → PE (gx X A s H (gxEnv X scope s code) fp pn) elt te)
    (hs : ∀ v, genFold iter X.env v = pure v)
    (he : starEach [.GeneratorExp elt [⟨tg, iter, [], 0⟩] scope gpos] X.env = (false, eval (.GeneratorExp elt [⟨tg, iter, [], 0⟩] scope gpos) X.env) :: starEach [] X.env := by rfl) :
    PE X (.Call (.Name "tuple" p) [.GeneratorExp elt [⟨tg, iter, [], 0⟩] scope gpos] [] pos) (tTupGx P wi g te (own.map (·.2))) := by
  refine ⟨fun pins s σ H Q I h => ?_⟩
  refine Call_ (ld_blt I hg hm boot_tuple (PyProof.Rows.callWith_type1 (args_cons ?_ he) he rfl))
  refine gx_eval hc hr hN TB hcode hi ok hco dot pg pe hs I h fun u s5 sc H2 fp I3 fp3 made => args_nil ?_
  refine call_tuple_made hr I.ok.frames made (fun s' acc H' ys q1 q2 q3 q4 q5 q6 q7 => ?_) (fun e s' z => ?_)
  · have J3 : L2.Inv X pins σ H' s' := I3.call' (ch := fp) q3 q5 q6 q4 fun b hb => ⟨(fp3 b hb).2.2.2.1, (fp3 b hb).2.1, (fp3 b hb).2.2.2.2.1, (fp3 b hb).2.2.2.2.2⟩
    refine ⟨.ref _, _, J3.laid (t' := s'.toks) (o := .tup ys) (fun b ob z => Heap.get?_push_of_some _ z) (Nat.le_refl _) ?_, rfl, q7 _ (J3.hok.fresh (Nat.le_refl _))⟩
    exact ⟨q2, acc, q1, _, Heap.get?_push_size _ rfl, rfl, _, rfl⟩
  · obtain ⟨_, _, _, _, _, _, _, _, _, _, _, _, z⟩ := z
    exact z
end
end Gx
set_option maxHeartbeats 4000000
/-! tuple * int, also by 0 and by 1. -/
namespace Gx
open PySem PySem.Spec PyProof.Rows L2
theorem tuple_mul1 (l : Addr) (items : Array Value) (n : Nat) (dd : Option Addr) (sl : Array (Option Value)) (u : Tok) :
    Meets (Builtin.«tuple.__mul__» ⟨[.ref l, .int 1 u], []⟩) (fun _ R s => s.heap.get? l = some { cls := .type "tuple", dict := dd, data := .seq items n, slots := sl } ∧ R (.ok (.ret (Value.ref l))) s) :=
  .of_wp fun prog w A R s h => by
    obtain ⟨hp, g, d, tk, os⟩ := s
    obtain ⟨hl, h⟩ := h
    have f1 := AutoSeq1.idx_int
    wp_walk using wpAny_loadPart' hl
    repeat (first
      | (refine wpAny_ite_false (decide_eq_false (by decide)) ?_; wp_walk using wpAny_loadPart' hl)
      | (refine wpAny_ite_true (decide_eq_true (by simp)) ?_; wp_walk using wpAny_loadPart' hl))
    exact ⟨_, rfl, h⟩
theorem tuple_mul0 (l : Addr) (items : Array Value) (n : Nat) (dd : Option Addr) (sl : Array (Option Value)) (u : Tok) (c1 : items.isEmpty = false) :
    Meets (Builtin.«tuple.__mul__» ⟨[.ref l, .int 0 u], []⟩) (fun _ R s => s.heap.get? l = some { cls := .type "tuple", dict := dd, data := .seq items n, slots := sl } ∧
      R (.ok (.ret (Value.ref s.heap.objs.size))) { s with heap := s.heap.push { cls := Value.type "tuple", data := Data.seq #[] }, toks := s.toks }) :=
  .of_wp fun prog w A R s h => by
    obtain ⟨hp, g, d, tk, os⟩ := s
    obtain ⟨hl, h⟩ := h
    have f1 := AutoSeq1.idx_int
    wp_walk using wpAny_loadPart' hl
    repeat (first
      | (refine wpAny_ite_false (decide_eq_false (by decide)) ?_; wp_walk using wpAny_loadPart' hl)
      | (refine wpAny_ite_false (decide_eq_false (by rw [c1]; decide)) ?_; wp_walk using wpAny_loadPart' hl)
      | (refine wpAny_ite_true (decide_eq_true (by simp)) ?_; wp_walk using wpAny_loadPart' hl))
    exact ⟨_, rfl, h⟩
def rRepA (K : PySem.W.Frag) : R2 := fun x y H Q => ∃ l k xs, x = .ref l ∧ y = .int k ∧ SqT K H l xs ∧ xs ≠ [] ∧ 0 ≤ k ∧ k ≤ 1000 ∧ xs.length ≤ 1000 ∧ (k = 1 → Q (.ref l) H) ∧ (k ≠ 1 → ∀ p, H p = none → Q (.ref p) (upd H p (.tup (List.replicate k.toNat xs).flatten)))
section
variable {X : Cx}
theorem op_repA : OpR X (binaryOp .Mult) (rRepA X.K) := by
  intro pins s σ H x y v u Q I rx ry h
  obtain ⟨l, k, xs, rfl, rfl, hT, hne, h1, h2, hz, q1, q⟩ := h
  by_cases k2 : 2 ≤ k
  · exact op_repT pins s σ H _ _ v u Q I rx ry ⟨l, k, xs, rfl, rfl, hT, hne, k2, h2, hz, q (by omega)⟩
  · cases rx
    obtain ⟨t, rfl⟩ := ry
    have hT0 := hT
    obtain ⟨its, r, ⟨⟨cls, dd, data, sl⟩, ho, hc, n, hd⟩, hs⟩ := I.tuple hT
    simp only at hc hd
    subst hc hd
    have hle : its.length = xs.length := r.length.symm
    have hn : its ≠ [] := fun e => hne (by
      rw [e] at hle
      exact List.eq_nil_of_length_eq_zero hle.symm)
    have hi : its.toArray.isEmpty = false := by
      cases its with
      | nil => exact absurd rfl hn
      | cons a b => rfl
    rcases (show k = 0 ∨ k = 1 by omega) with rfl | rfl
    · refine wpAny_binaryOp_repeat_ref (T := "tuple") (U := "int") (by decide) ⟨_, ho, rfl⟩ (fun s' => typeIs_int s' 0 t) noFill_tuple_mul F.fills_int_mul F.slot_int_rmul repeat_tuple F.slot_int_index.lookup
        (call_meets F.slot_int_rmul (typeIs_int s 0 t) F.entry_int_rmul (F.args_int_rmul_2 _ _) (int_rmul_tuple 0 t l its.toArray n dd sl)
          ⟨ho, rfl, ⟨_, ho, rfl⟩, call_meets F.slot_tuple_mul ⟨_, ho, rfl⟩ F.entry_tuple_mul (F.args_tuple_mul_2 _ _) (tuple_mul0 l its.toArray n dd sl t hi) ⟨ho, ?_⟩⟩)
      refine ⟨.ref s.heap.objs.size, _, I.laid (t' := s.toks) (o := .tup []) (fun b ob q => Heap.get?_push_of_some _ q) (Nat.le_refl _) ?_, rfl, q (by decide) _ (I.hok.fresh (Nat.le_refl _))⟩
      exact ⟨by simp [sizeLine_eq], [], .nil, IsTup.new _ _⟩
    · refine wpAny_binaryOp_repeat_ref (T := "tuple") (U := "int") (by decide) ⟨_, ho, rfl⟩ (fun s' => typeIs_int s' 1 t) noFill_tuple_mul F.fills_int_mul F.slot_int_rmul repeat_tuple F.slot_int_index.lookup
        (call_meets F.slot_int_rmul (typeIs_int s 1 t) F.entry_int_rmul (F.args_int_rmul_2 _ _) (int_rmul_tuple 1 t l its.toArray n dd sl)
          ⟨ho, rfl, ⟨_, ho, rfl⟩, call_meets F.slot_tuple_mul ⟨_, ho, rfl⟩ F.entry_tuple_mul (F.args_tuple_mul_2 _ _) (tuple_mul1 l its.toArray n dd sl t) ⟨ho, ?_⟩⟩)
      exact ⟨.ref l, H, I, rfl, q1 rfl⟩
end
end Gx
set_option linter.all false
namespace Lin
/-! rows as functions Nat → Int, round a prime p: spans, and what clearing by leads tells -/
def Cg (p a b : Int) : Prop := ∃ c, a = b + p * c
theorem Cg.rfl' {p a : Int} : Cg p a a := ⟨0, by simp⟩
theorem Cg.mod {p : Int} (a : Int) : Cg p (a % p) a := ⟨-(a / p), by have := Int.emod_def a p; rw [Int.mul_neg]; omega⟩
theorem Cg.add {p a b c d : Int} (h : Cg p a b) (k : Cg p c d) : Cg p (a + c) (b + d) := by
  obtain ⟨x, rfl⟩ := h
  obtain ⟨y, rfl⟩ := k
  exact ⟨x + y, by grind⟩
theorem Cg.sub {p a b c d : Int} (h : Cg p a b) (k : Cg p c d) : Cg p (a - c) (b - d) := by
  obtain ⟨x, rfl⟩ := h
  obtain ⟨y, rfl⟩ := k
  exact ⟨x - y, by grind⟩
theorem Cg.mul {p a b c d : Int} (h : Cg p a b) (k : Cg p c d) : Cg p (a * c) (b * d) := by
  obtain ⟨x, rfl⟩ := h
  obtain ⟨y, rfl⟩ := k
  exact ⟨b * y + x * d + p * x * y, by grind⟩
theorem Cg.trans {p a b c : Int} (h : Cg p a b) (k : Cg p b c) : Cg p a c := by
  obtain ⟨x, rfl⟩ := h
  obtain ⟨y, rfl⟩ := k
  exact ⟨x + y, by grind⟩
theorem Cg.symm {p a b : Int} (h : Cg p a b) : Cg p b a := by
  obtain ⟨x, rfl⟩ := h
  exact ⟨-x, by grind⟩
abbrev Vc := Nat → Int
/-- alike round p -/
def Eqv (p : Int) (u v : Vc) : Prop := ∀ i, Cg p (u i) (v i)
theorem Eqv.refl {p : Int} {u : Vc} : Eqv p u u := fun _ => Cg.rfl'
theorem Eqv.symm {p : Int} {u v : Vc} (h : Eqv p u v) : Eqv p v u := fun i => (h i).symm
theorem Eqv.trans {p : Int} {u v w : Vc} (h : Eqv p u v) (k : Eqv p v w) : Eqv p u w := fun i => (h i).trans (k i)
/-- the lot of some rows: whatever sums of multiples make -/
inductive Lot (p : Int) (R : Vc → Prop) : Vc → Prop
  | zero : Lot p R fun _ => 0
  | add {u v : Vc} (c : Int) : Lot p R u → R v → Lot p R fun i => u i + c * v i
  | eqv {u v : Vc} : Lot p R u → Eqv p u v → Lot p R v
theorem Lot.of {p : Int} {R : Vc → Prop} {v : Vc} (h : R v) : Lot p R v := .eqv (.add 1 .zero h) fun i => ⟨0, by grind⟩
theorem Lot.comb {p : Int} {R : Vc → Prop} {u v : Vc} (c : Int) (h : Lot p R u) (k : Lot p R v) : Lot p R fun i => u i + c * v i := by
  induction k with
  | zero => exact .eqv h fun i => ⟨0, by grind⟩
  | add d _ r ih => exact .eqv (.add (c * d) ih r) fun i => ⟨0, by grind⟩
  | eqv _ e ih => exact .eqv ih fun i => Cg.rfl'.add (Cg.rfl'.mul (e i))
/-- a lot in another -/
theorem Lot.sub {p : Int} {R S : Vc → Prop} (h : ∀ v, R v → Lot p S v) {u : Vc} (k : Lot p R u) : Lot p S u := by
  induction k with
  | zero => exact .zero
  | add d _ r ih => exact Lot.comb d ih (h _ r)
  | eqv _ e ih => exact .eqv ih e
/-- leads: each place's row has 1 there and 0 at the other places -/
structure Leads (p : Int) (L : List (Nat × Vc)) : Prop where
  self : ∀ x ∈ L, Cg p (x.2 x.1) 1
  other : ∀ x ∈ L, ∀ y ∈ L, x.1 ≠ y.1 → Cg p (x.2 y.1) 0
def rowsOf (L : List (Nat × Vc)) : Vc → Prop := fun v => ∃ x ∈ L, x.2 = v
/-- the sum of the leads by a row's own numbers at their places -/
def own (u : Vc) : List (Nat × Vc) → Vc
  | [] => fun _ => 0
  | x :: L => fun i => u x.1 * x.2 i + own u L i
theorem own_lot {p : Int} {u : Vc} : ∀ (L : List (Nat × Vc)) {R : Vc → Prop}, (∀ x ∈ L, R x.2) → Lot p R (own u L)
  | [], _, _ => .zero
  | x :: L, _, h => .eqv (Lot.comb (u x.1) (own_lot (u := u) L fun y hy => h y (List.mem_cons_of_mem _ hy)) (Lot.of (h x (by simp)))) fun i => ⟨0, by simp only [own]; grind⟩
theorem own_comb {u v : Vc} {c : Int} : ∀ (L : List (Nat × Vc)) (i : Nat), own (fun j => u j + c * v j) L i = own u L i + c * own v L i
  | [], _ => by simp [own]
  | x :: L, i => by
    simp only [own]
    rw [own_comb L i]
    grind
theorem own_eqv {p : Int} {u v : Vc} (h : Eqv p u v) : ∀ L : List (Nat × Vc), Eqv p (own u L) (own v L)
  | [], _ => Cg.rfl'
  | x :: L, i => ((h x.1).mul Cg.rfl').add (own_eqv h L i)
theorem own_none {p : Int} {u : Vc} : ∀ {L : List (Nat × Vc)}, (∀ x ∈ L, Cg p (u x.1) 0) → Eqv p (own u L) fun _ => 0
  | [], _, _ => Cg.rfl'
  | x :: L, h, i => by
    have a := ((h x (by simp)).mul (Cg.rfl' (a := x.2 i))).add (own_none (L := L) (fun y hy => h y (List.mem_cons_of_mem _ hy)) i)
    have e : (0 : Int) * x.2 i + 0 = 0 := by simp
    rw [e] at a
    exact a
theorem own_lead {p : Int} {L : List (Nat × Vc)} (h : Leads p L) (nd : (L.map (·.1)).Nodup) {x : Nat × Vc} (hx : x ∈ L) : Eqv p (own x.2 L) x.2 := by
  induction L with
  | nil => cases hx
  | cons y L ih =>
    have nd' := List.nodup_cons.mp (by simpa using nd : (y.1 :: L.map (·.1)).Nodup)
    have hL : Leads p L := ⟨fun z hz => h.self z (List.mem_cons_of_mem _ hz), fun z hz w hw => h.other z (List.mem_cons_of_mem _ hz) w (List.mem_cons_of_mem _ hw)⟩
    intro i
    show Cg p (x.2 y.1 * y.2 i + own x.2 L i) (x.2 i)
    rcases List.mem_cons.mp hx with rfl | hx'
    · have a := (h.self x (by simp)).mul (Cg.rfl' (a := x.2 i))
      have b := own_none (p := p) (u := x.2) (L := L) (fun z hz => h.other x (by simp) z (List.mem_cons_of_mem _ hz) fun e => nd'.1 (by rw [e]; exact List.mem_map.mpr ⟨z, hz, rfl⟩)) i
      have c := a.add b
      have e : (1 : Int) * x.2 i + 0 = x.2 i := by simp
      rw [e] at c
      exact c
    · have ne : x.1 ≠ y.1 := fun e => nd'.1 (by rw [← e]; exact List.mem_map.mpr ⟨x, hx', rfl⟩)
      have a := (h.other x hx y (by simp) ne).mul (Cg.rfl' (a := y.2 i))
      have b := ih hL nd'.2 hx' i
      have c := a.add b
      have e : (0 : Int) * y.2 i + x.2 i = x.2 i := by simp
      rw [e] at c
      exact c
/-- a row is in the lot of the leads just where it is the sum by its own numbers -/
theorem lot_iff {p : Int} {L : List (Nat × Vc)} (h : Leads p L) (nd : (L.map (·.1)).Nodup) {u : Vc} : Lot p (rowsOf L) u ↔ Eqv p (own u L) u := by
  constructor
  · intro k
    induction k with
    | zero => exact own_none fun _ _ => Cg.rfl'
    | @add a v c _ r ih =>
      obtain ⟨x, hx, rfl⟩ := r
      intro i
      rw [own_comb]
      exact (ih i).add (Cg.rfl'.mul (own_lead h nd hx i))
    | eqv _ e ih => exact ((own_eqv e L).symm.trans ih).trans e
  · intro k
    exact .eqv (own_lot L fun x hx => ⟨x, hx, rfl⟩) k
/-- what is left of a row behind clearing -/
def left (u : Vc) (L : List (Nat × Vc)) : Vc := fun i => u i - own u L i
theorem own_at {p : Int} {L : List (Nat × Vc)} (h : Leads p L) (nd : (L.map (·.1)).Nodup) {u : Vc} {x : Nat × Vc} (hx : x ∈ L) : Cg p (own u L x.1) (u x.1) := by
  induction L with
  | nil => cases hx
  | cons y L ih =>
    have nd' := List.nodup_cons.mp (by simpa using nd : (y.1 :: L.map (·.1)).Nodup)
    have hL : Leads p L := ⟨fun z hz => h.self z (List.mem_cons_of_mem _ hz), fun z hz w hw => h.other z (List.mem_cons_of_mem _ hz) w (List.mem_cons_of_mem _ hw)⟩
    show Cg p (u y.1 * y.2 x.1 + own u L x.1) (u x.1)
    rcases List.mem_cons.mp hx with rfl | hx'
    · have far : ∀ M : List (Nat × Vc), (∀ z ∈ M, Cg p (z.2 x.1) 0) → Cg p (own u M x.1) 0 := by
        intro M hM
        induction M with
        | nil => exact Cg.rfl'
        | cons z M ihM =>
          have a := ((Cg.rfl' (a := u z.1)).mul (hM z (by simp))).add (ihM fun w hw => hM w (List.mem_cons_of_mem _ hw))
          have e : u z.1 * 0 + 0 = 0 := by simp
          rw [e] at a
          exact a
      have a := ((Cg.rfl' (a := u x.1)).mul (h.self x (by simp))).add (far L fun z hz => h.other z (List.mem_cons_of_mem _ hz) x (by simp) fun e => nd'.1 (by rw [← e]; exact List.mem_map.mpr ⟨z, hz, rfl⟩))
      have e : u x.1 * 1 + 0 = u x.1 := by simp
      rw [e] at a
      exact a
    · have ne : y.1 ≠ x.1 := fun e => nd'.1 (by rw [e]; exact List.mem_map.mpr ⟨x, hx', rfl⟩)
      have a := ((Cg.rfl' (a := u y.1)).mul (h.other y (by simp) x hx ne)).add (ih hL nd'.2 hx')
      have e : u y.1 * 0 + u x.1 = u x.1 := by simp
      rw [e] at a
      exact a
theorem left_at {p : Int} {L : List (Nat × Vc)} (h : Leads p L) (nd : (L.map (·.1)).Nodup) {u : Vc} {x : Nat × Vc} (hx : x ∈ L) : Cg p (left u L x.1) 0 := by
  have a := (Cg.rfl' (a := u x.1)).sub (own_at h nd (u := u) hx)
  have e : u x.1 - u x.1 = 0 := by omega
  rw [e] at a
  exact a
/-- a row is in the lot of the leads just where nothing is left of it -/
theorem lot_left {p : Int} {L : List (Nat × Vc)} (h : Leads p L) (nd : (L.map (·.1)).Nodup) {u : Vc} : Lot p (rowsOf L) u ↔ Eqv p (left u L) fun _ => 0 := by
  rw [lot_iff h nd]
  constructor
  · intro k i
    have a := (Cg.rfl' (a := u i)).sub (k i)
    have e : u i - u i = 0 := by omega
    rw [e] at a
    exact a
  · intro k i
    have a := (Cg.rfl' (a := u i)).sub (k i)
    have e : u i - left u L i = own u L i := by
      show u i - (u i - own u L i) = own u L i
      omega
    have e2 : u i - 0 = u i := by omega
    rw [e, e2] at a
    exact a
/-- one more lead at q -/
def more (q : Nat) (l : Vc) (L : List (Nat × Vc)) : List (Nat × Vc) := L.map fun x => (x.1, fun i => x.2 i - x.2 q * l i)
theorem more_places {q : Nat} {l : Vc} {L : List (Nat × Vc)} : (more q l L).map (·.1) = L.map (·.1) := by
  unfold more
  rw [List.map_map]
  rfl
theorem leads_more {p : Int} {L : List (Nat × Vc)} {q : Nat} {l : Vc} (h : Leads p L) (nd : (L.map (·.1)).Nodup) (h1 : Cg p (l q) 1) (h0 : ∀ x ∈ L, Cg p (l x.1) 0) (hq : ∀ x ∈ L, x.1 ≠ q) : Leads p (more q l L ++ [(q, l)]) := by
  have key : ∀ x ∈ L, ∀ y ∈ L, Cg p (x.2 y.1 - x.2 q * l y.1) (x.2 y.1) := fun x _ y hy => by
    have a := (Cg.rfl' (a := x.2 y.1)).sub ((Cg.rfl' (a := x.2 q)).mul (h0 y hy))
    have e : x.2 y.1 - x.2 q * 0 = x.2 y.1 := by simp
    rw [e] at a
    exact a
  have atq : ∀ x ∈ L, Cg p (x.2 q - x.2 q * l q) 0 := fun x _ => by
    have a := (Cg.rfl' (a := x.2 q)).sub ((Cg.rfl' (a := x.2 q)).mul h1)
    have e : x.2 q - x.2 q * 1 = 0 := by rw [Int.mul_one]; omega
    rw [e] at a
    exact a
  refine ⟨fun x hx => ?_, fun x hx y hy ne => ?_⟩
  · rcases List.mem_append.mp hx with hx | hx
    · obtain ⟨z, hz, rfl⟩ := List.mem_map.mp hx
      exact (key z hz z hz).trans (h.self z hz)
    · rw [List.mem_singleton.mp hx]
      exact h1
  · rcases List.mem_append.mp hx with hx | hx
    · obtain ⟨z, hz, rfl⟩ := List.mem_map.mp hx
      rcases List.mem_append.mp hy with hy | hy
      · obtain ⟨w, hw, rfl⟩ := List.mem_map.mp hy
        exact (key z hz w hw).trans (h.other z hz w hw ne)
      · rw [List.mem_singleton.mp hy]
        exact atq z hz
    · rw [List.mem_singleton.mp hx] at ne ⊢
      rcases List.mem_append.mp hy with hy | hy
      · obtain ⟨w, hw, rfl⟩ := List.mem_map.mp hy
        exact h0 w hw
      · rw [List.mem_singleton.mp hy] at ne
        exact absurd rfl ne
/-- the lot with a new lead is that of the old leads and the row out of which it was made -/
theorem lot_more {p c d : Int} {L : List (Nat × Vc)} {q : Nat} {f l : Vc} (hl : Eqv p l fun i => c * left f L i) (hd : Cg p (d * c) 1) {u : Vc} : Lot p (rowsOf (more q l L ++ [(q, l)])) u ↔ Lot p (fun v => rowsOf L v ∨ v = f) u := by
  have lIn : Lot p (fun v => rowsOf L v ∨ v = f) l := by
    have a : Lot p (fun v => rowsOf L v ∨ v = f) (own f L) := own_lot L fun x hx => .inl ⟨x, hx, rfl⟩
    have b : Lot p (fun v => rowsOf L v ∨ v = f) f := Lot.of (.inr rfl)
    have e := Lot.comb c Lot.zero (Lot.comb (-1) b a)
    exact .eqv e fun i => Cg.trans ⟨0, by simp only [left]; grind⟩ (hl i).symm
  have newl : Lot p (rowsOf (more q l L ++ [(q, l)])) l := Lot.of ⟨(q, l), by simp, rfl⟩
  have old : ∀ x ∈ L, Lot p (rowsOf (more q l L ++ [(q, l)])) x.2 := fun x hx => by
    have a : Lot p (rowsOf (more q l L ++ [(q, l)])) (fun i => x.2 i - x.2 q * l i) := Lot.of ⟨(x.1, fun i => x.2 i - x.2 q * l i), List.mem_append.mpr (.inl (List.mem_map.mpr ⟨x, hx, rfl⟩)), rfl⟩
    exact .eqv (Lot.comb (x.2 q) a newl) fun i => ⟨0, by grind⟩
  constructor
  · refine Lot.sub fun v hv => ?_
    obtain ⟨x, hx, rfl⟩ := hv
    rcases List.mem_append.mp hx with hx | hx
    · obtain ⟨z, hz, rfl⟩ := List.mem_map.mp hx
      exact .eqv (Lot.comb (-(z.2 q)) (Lot.of (.inl ⟨z, hz, rfl⟩)) lIn) fun i => ⟨0, by grind⟩
    · rw [List.mem_singleton.mp hx]
      exact lIn
  · refine Lot.sub fun v hv => ?_
    rcases hv with ⟨x, hx, rfl⟩ | rfl
    · exact old x hx
    · have a : Lot p (rowsOf (more q l L ++ [(q, l)])) (own v L) := Lot.sub (R := rowsOf L) (fun w ⟨x, hx, e⟩ => e ▸ old x hx) (own_lot L fun x hx => ⟨x, hx, rfl⟩)
      refine .eqv (Lot.comb d a newl) fun i => ?_
      have e1 := (Cg.rfl' (p := p) (a := own v L i)).add ((Cg.rfl' (a := d)).mul (hl i))
      have e2 := (Cg.rfl' (p := p) (a := own v L i)).add (hd.mul (Cg.rfl' (a := left v L i)))
      have e3 : own v L i + d * (c * left v L i) = own v L i + d * c * left v L i := by grind
      have e4 : own v L i + 1 * left v L i = v i := by simp only [left]; grind
      rw [e3] at e1
      rw [e4] at e2
      exact e1.trans e2
/-- clearing, one lead behind another -/
def clear (u : Vc) : List (Nat × Vc) → Vc
  | [] => u
  | x :: L => clear (fun i => u i - u x.1 * x.2 i) L
theorem clear_eqv {p : Int} : ∀ (L : List (Nat × Vc)) {u v : Vc}, Eqv p u v → Eqv p (clear u L) (clear v L)
  | [], _, _, h => h
  | x :: L, _, _, h => clear_eqv L fun i => (h i).sub ((h x.1).mul Cg.rfl')
theorem clear_left {p : Int} : ∀ {L : List (Nat × Vc)} {u : Vc}, Leads p L → (L.map (·.1)).Nodup → Eqv p (clear u L) (left u L)
  | [], u, _, _ => fun i => ⟨0, by simp [clear, left, own]⟩
  | x :: L, u, h, nd => by
    have nd' := List.nodup_cons.mp (by simpa using nd : (x.1 :: L.map (·.1)).Nodup)
    have hL : Leads p L := ⟨fun z hz => h.self z (List.mem_cons_of_mem _ hz), fun z hz w hw => h.other z (List.mem_cons_of_mem _ hz) w (List.mem_cons_of_mem _ hw)⟩
    intro i
    have ih := clear_left (u := fun i => u i - u x.1 * x.2 i) hL nd'.2 i
    have e1 : own (fun j => u j - u x.1 * x.2 j) L i = own u L i - u x.1 * own x.2 L i := by
      have z := own_comb (u := u) (v := x.2) (c := -(u x.1)) L i
      have z2 : (fun j => u j + -(u x.1) * x.2 j) = fun j => u j - u x.1 * x.2 j := by
        funext j
        grind
      rw [z2] at z
      rw [z]
      grind
    have z : Cg p (own x.2 L i) 0 := own_none (fun y hy => h.other x (by simp) y (List.mem_cons_of_mem _ hy) fun e => nd'.1 (by rw [e]; exact List.mem_map.mpr ⟨y, hy, rfl⟩)) i
    have a : Cg p (u i - u x.1 * x.2 i - (own u L i - u x.1 * own x.2 L i)) (u i - u x.1 * x.2 i - (own u L i - u x.1 * 0)) := Cg.rfl'.sub (Cg.rfl'.sub (Cg.rfl'.mul z))
    have e2 : left (fun i => u i - u x.1 * x.2 i) L i = u i - u x.1 * x.2 i - (own u L i - u x.1 * own x.2 L i) := by
      show u i - u x.1 * x.2 i - own (fun j => u j - u x.1 * x.2 j) L i = _
      rw [e1]
    have e3 : left u (x :: L) i = u i - u x.1 * x.2 i - (own u L i - u x.1 * 0) := by
      show u i - (u x.1 * x.2 i + own u L i) = _
      grind
    show Cg p (clear (fun i => u i - u x.1 * x.2 i) L i) (left u (x :: L) i)
    rw [e3]
    rw [e2] at ih
    exact ih.trans a
/-- nothing stands ahead of a lead's place -/
def Ahead (p : Int) (L : List (Nat × Vc)) : Prop := ∀ x ∈ L, ∀ i, i < x.1 → Cg p (x.2 i) 0
theorem own_zero {p : Int} {u : Vc} {i : Nat} : ∀ {L : List (Nat × Vc)}, (∀ y ∈ L, Cg p (u y.1) 0 ∨ Cg p (y.2 i) 0) → Cg p (own u L i) 0
  | [], _ => Cg.rfl'
  | y :: L, h => by
    have b := own_zero (L := L) fun z hz => h z (List.mem_cons_of_mem _ hz)
    show Cg p (u y.1 * y.2 i + own u L i) 0
    have e0 : (0 : Int) + 0 = 0 := rfl
    rw [← e0]
    refine Cg.add ?_ b
    rcases h y (by simp) with k | k
    · have a := k.mul (Cg.rfl' (a := y.2 i))
      rw [Int.zero_mul] at a
      exact a
    · have a := (Cg.rfl' (a := u y.1)).mul k
      rw [Int.mul_zero] at a
      exact a
theorem one_zero {p : Int} (h : 1 < p) : ¬ Cg p 1 0 := by
  rintro ⟨c, e⟩
  have e2 : (1 : Int) = p * c := by omega
  have d : p ∣ 1 := ⟨c, e2⟩
  have := Int.le_of_dvd (by decide) d
  omega
theorem place_in {p : Int} {L M : List (Nat × Vc)} (h1 : 1 < p) (hL : Leads p L) (aL : Ahead p L) (hM : Leads p M) (aM : Ahead p M) (ndM : (M.map (·.1)).Nodup) (sub : ∀ x ∈ L, Lot p (rowsOf M) x.2) {x : Nat × Vc} (hx : x ∈ L) : ∃ y ∈ M, y.1 = x.1 := by
  refine Classical.byContradiction fun no => ?_
  have k := (lot_iff hM ndM).mp (sub x hx) x.1
  have z : Cg p (own x.2 M x.1) 0 := own_zero fun y hy => by
    rcases Nat.lt_trichotomy y.1 x.1 with l | l | l
    · exact .inl (aL x hx y.1 l)
    · exact absurd ⟨y, hy, l⟩ no
    · exact .inr (aM y hy x.1 l)
  exact one_zero h1 (((hL.self x hx).symm.trans k.symm).trans z)
/-- plain sets of one lot have the same rows at the same places -/
theorem plain_same {p : Int} {L M : List (Nat × Vc)} (h1 : 1 < p) (hL : Leads p L) (aL : Ahead p L) (ndL : (L.map (·.1)).Nodup) (hM : Leads p M) (aM : Ahead p M) (ndM : (M.map (·.1)).Nodup) (sub : ∀ x ∈ L, Lot p (rowsOf M) x.2) (sup : ∀ y ∈ M, Lot p (rowsOf L) y.2)
    {x y : Nat × Vc} (hx : x ∈ L) (hy : y ∈ M) (e : y.1 = x.1) : Eqv p x.2 y.2 := by
  have k := (lot_iff hM ndM).mp (sub x hx)
  have k2 := own_lead hM ndM hy
  refine fun i => ((k i).symm.trans ?_).trans (k2 i)
  have d : ∀ z ∈ M, Cg p (x.2 z.1 - y.2 z.1) 0 := fun z hz => by
    by_cases e2 : z.1 = x.1
    · have a := (hL.self x hx).sub (hM.self y hy)
      rw [e2]
      rw [e] at a
      exact a
    · obtain ⟨w, hw, ew⟩ := place_in h1 hM aM hL aL ndL sup hz
      have a := (hL.other x hx w hw fun q => e2 (by rw [← ew, q])).sub (hM.other y hy z hz fun q => e2 (by rw [← q, e]))
      rw [ew] at a
      exact a
  have o := own_none (u := fun j => x.2 j - y.2 j) d i
  have e3 : own (fun j => x.2 j - y.2 j) M i = own x.2 M i - own y.2 M i := by
    have z := own_comb (u := x.2) (v := y.2) (c := -1) M i
    have z2 : (fun j => x.2 j + -1 * y.2 j) = fun j => x.2 j - y.2 j := by
      funext j
      grind
    rw [z2] at z
    rw [z]
    grind
  have o2 : Cg p (own x.2 M i - own y.2 M i) 0 := by
    rw [← e3]
    exact o
  have a := o2.add (Cg.rfl' (a := own y.2 M i))
  have e4 : own x.2 M i - own y.2 M i + own y.2 M i = own x.2 M i := by omega
  rw [e4, Int.zero_add] at a
  exact a
/-! ### lists of numbers as such rows -/
def vec (us : List Int) : Vc := fun i => us.getD i 0
def vecs (L : List (Nat × List Int)) : List (Nat × Vc) := L.map fun x => (x.1, vec x.2)
def Rg (p : Int) (us : List Int) : Prop := ∀ u ∈ us, 0 ≤ u ∧ u < p
theorem vec_some {us : List Int} {i : Nat} {u : Int} (h : us[i]? = some u) : vec us i = u := by
  show us.getD i 0 = u
  rw [List.getD_eq_getElem?_getD, h]
  rfl
theorem vec_out {us : List Int} {i : Nat} (h : us.length ≤ i) : vec us i = 0 := by
  show us.getD i 0 = 0
  rw [List.getD_eq_getElem?_getD, List.getElem?_eq_none h]
  rfl
theorem Rg.vec {p : Int} {us : List Int} (p0 : 0 < p) (h : Rg p us) (i : Nat) : 0 ≤ vec us i ∧ vec us i < p := by
  by_cases hi : i < us.length
  · rw [vec_some (List.getElem?_eq_getElem hi)]
    exact h _ (List.getElem_mem hi)
  · rw [vec_out (by omega)]
    omega
theorem cg_eq {p a b : Int} (ha : 0 ≤ a ∧ a < p) (hb : 0 ≤ b ∧ b < p) (h : Cg p a b) : a = b := by
  obtain ⟨c, rfl⟩ := h
  have e : (b + p * c) % p = b % p := Int.add_mul_emod_self_left b p c
  rw [Int.emod_eq_of_lt ha.1 ha.2, Int.emod_eq_of_lt hb.1 hb.2] at e
  exact e
theorem list_eq {p : Int} {us vs : List Int} (p0 : 0 < p) (hl : us.length = vs.length) (hu : Rg p us) (hv : Rg p vs) (e : Eqv p (vec us) (vec vs)) : us = vs := by
  apply List.ext_getElem hl
  intro i h1 h2
  have a := cg_eq (hu.vec p0 i) (hv.vec p0 i) (e i)
  rw [vec_some (List.getElem?_eq_getElem h1), vec_some (List.getElem?_eq_getElem h2)] at a
  exact a
theorem zero_iff {p : Int} {us : List Int} (p0 : 0 < p) (hu : Rg p us) : (∀ x ∈ us, x = 0) ↔ Eqv p (vec us) fun _ => 0 := by
  constructor
  · intro h i
    by_cases hi : i < us.length
    · rw [vec_some (List.getElem?_eq_getElem hi), h _ (List.getElem_mem hi)]
      exact Cg.rfl'
    · rw [vec_out (by omega)]
      exact Cg.rfl'
  · intro h x hx
    obtain ⟨i, hi, rfl⟩ := List.mem_iff_getElem.mp hx
    have a := cg_eq (hu.vec p0 i) ⟨by decide, p0⟩ (h i)
    rw [vec_some (List.getElem?_eq_getElem hi)] at a
    exact a
def lessZ (p n : Int) (us vs : List Int) : List Int := List.zipWith (fun x y => (x - n * y) % p) us vs
def lessL (p : Int) (us : List Int) (n : Int) (vs : List Int) : List Int := if n = 0 then us else lessZ p n us vs
theorem less_len {p n : Int} {us vs : List Int} (h : us.length = vs.length) : (lessL p us n vs).length = us.length := by
  unfold lessL
  split
  · rfl
  · unfold lessZ
    rw [List.length_zipWith]
    omega
theorem less_rg {p n : Int} {us vs : List Int} (p0 : 0 < p) (h : Rg p us) : Rg p (lessL p us n vs) := by
  unfold lessL
  split
  · exact h
  · intro u hu
    unfold lessZ at hu
    obtain ⟨i, hi, rfl⟩ := List.mem_iff_getElem.mp hu
    rw [List.getElem_zipWith]
    exact ⟨Int.emod_nonneg _ (by omega), Int.emod_lt_of_pos _ p0⟩
theorem vec_less {p n : Int} {us vs : List Int} (h : us.length = vs.length) : Eqv p (vec (lessL p us n vs)) fun i => vec us i - n * vec vs i := by
  intro i
  show Cg p (vec (lessL p us n vs) i) (vec us i - n * vec vs i)
  unfold lessL
  split
  · rename_i e
    rw [e]
    exact ⟨0, by simp⟩
  · by_cases hi : i < us.length
    · have h2 : i < vs.length := by omega
      rw [vec_some (us := us) (List.getElem?_eq_getElem hi), vec_some (us := vs) (List.getElem?_eq_getElem h2)]
      have e : (lessZ p n us vs)[i]? = some ((us[i] - n * vs[i]) % p) := by
        unfold lessZ
        rw [List.getElem?_zipWith, List.getElem?_eq_getElem hi, List.getElem?_eq_getElem h2]
      rw [vec_some e]
      exact Cg.mod _
    · have e : (lessZ p n us vs).length ≤ i := by
        unfold lessZ
        rw [List.length_zipWith]
        omega
      rw [vec_out e, vec_out (us := us) (by omega), vec_out (us := vs) (by omega)]
      exact ⟨0, by simp⟩
def clearL (p : Int) (us : List Int) : List (Nat × List Int) → List Int
  | [] => us
  | x :: L => clearL p (lessL p us (us.getD x.1 0) x.2) L
theorem clear_snoc {p : Int} {x : Nat × List Int} : ∀ (L : List (Nat × List Int)) (us : List Int), clearL p us (L ++ [x]) = lessL p (clearL p us L) ((clearL p us L).getD x.1 0) x.2
  | [], _ => rfl
  | y :: L, us => clear_snoc L _
theorem clear_len {p : Int} {n : Nat} : ∀ (L : List (Nat × List Int)) {us : List Int}, (∀ x ∈ L, x.2.length = n) → us.length = n → (clearL p us L).length = n
  | [], _, _, h => h
  | x :: L, us, hL, h => clear_len L (fun y hy => hL y (List.mem_cons_of_mem _ hy)) (by rw [less_len (by rw [h, hL x (by simp)])]; exact h)
theorem clear_rg {p : Int} (p0 : 0 < p) : ∀ (L : List (Nat × List Int)) {us : List Int}, Rg p us → Rg p (clearL p us L)
  | [], _, h => h
  | _ :: L, _, h => clear_rg p0 L (less_rg p0 h)
theorem vec_clear {p : Int} {n : Nat} : ∀ (L : List (Nat × List Int)) {us : List Int}, (∀ x ∈ L, x.2.length = n) → us.length = n → Eqv p (vec (clearL p us L)) (clear (vec us) (vecs L))
  | [], _, _, _ => Eqv.refl
  | x :: L, us, hL, h => by
    have e : us.length = x.2.length := by rw [h, hL x (by simp)]
    refine (vec_clear L (fun y hy => hL y (List.mem_cons_of_mem _ hy)) (by rw [less_len e]; exact h)).trans ?_
    exact clear_eqv _ (vec_less e)
/-- the rows that a list of lists of numbers spans -/
def spn (fs : List (List Int)) : Vc → Prop := fun v => ∃ f ∈ fs, vec f = v
structure PL (p : Int) (n : Nat) (fs : List (List Int)) (L : List (Nat × List Int)) : Prop where
  len : ∀ x ∈ L, x.2.length = n
  rg : ∀ x ∈ L, Rg p x.2
  plc : ∀ x ∈ L, x.1 < n
  nd : (L.map (·.1)).Nodup
  leads : Leads p (vecs L)
  ahead : Ahead p (vecs L)
  lot : ∀ u, Lot p (rowsOf (vecs L)) u ↔ Lot p (spn fs) u
theorem vecs_places {L : List (Nat × List Int)} : (vecs L).map (·.1) = L.map (·.1) := by
  unfold vecs
  rw [List.map_map]
  rfl
theorem mem_vecs {L : List (Nat × List Int)} {y : Nat × Vc} : y ∈ vecs L ↔ ∃ x ∈ L, (x.1, vec x.2) = y := List.mem_map
theorem PL.ndv {p : Int} {n : Nat} {fs : List (List Int)} {L : List (Nat × List Int)} (h : PL p n fs L) : ((vecs L).map (·.1)).Nodup := by
  rw [vecs_places]
  exact h.nd
theorem PL.nil {p : Int} {n : Nat} : PL p n [] [] := by
  refine ⟨fun x hx => by simp at hx, fun x hx => by simp at hx, fun x hx => by simp at hx, by simp, ⟨fun x hx => by simp [vecs] at hx, fun x hx => by simp [vecs] at hx⟩, fun x hx => by simp [vecs] at hx, fun u => ?_⟩
  have e : (rowsOf (vecs [])) = spn [] := by
    funext v
    simp [rowsOf, vecs, spn]
  rw [e]
theorem Lot.iff {p : Int} {R S : Vc → Prop} (h1 : ∀ v, R v → Lot p S v) (h2 : ∀ v, S v → Lot p R v) (u : Vc) : Lot p R u ↔ Lot p S u := ⟨Lot.sub h1, Lot.sub h2⟩
theorem PL.zero {p : Int} {n : Nat} {fs : List (List Int)} {L : List (Nat × List Int)} (p0 : 0 < p) (h : PL p n fs L) {f : List Int} (hl : f.length = n) (hr : Rg p f) : (∀ x ∈ clearL p f L, x = 0) ↔ Lot p (spn fs) (vec f) := by
  rw [zero_iff p0 (clear_rg p0 L hr), ← h.lot, lot_left h.leads h.ndv]
  have a := vec_clear (p := p) L h.len hl
  have b := clear_left (u := vec f) h.leads h.ndv
  exact ⟨fun k => (b.symm.trans a.symm).trans k, fun k => (a.trans b).trans k⟩
theorem spn_snoc {fs : List (List Int)} {f : List Int} {v : Vc} : spn (fs ++ [f]) v ↔ spn fs v ∨ v = vec f := by
  constructor
  · rintro ⟨g, hg, rfl⟩
    rcases List.mem_append.mp hg with hg | hg
    · exact .inl ⟨g, hg, rfl⟩
    · rw [List.mem_singleton.mp hg]
      exact .inr rfl
  · rintro (⟨g, hg, rfl⟩ | rfl)
    · exact ⟨g, by simp [hg], rfl⟩
    · exact ⟨f, by simp, rfl⟩
theorem PL.skip {p : Int} {n : Nat} {fs : List (List Int)} {L : List (Nat × List Int)} (p0 : 0 < p) (h : PL p n fs L) {f : List Int} (hl : f.length = n) (hr : Rg p f) (z : ∀ x ∈ clearL p f L, x = 0) : PL p n (fs ++ [f]) L := by
  refine ⟨h.len, h.rg, h.plc, h.nd, h.leads, h.ahead, fun u => (h.lot u).trans ?_⟩
  have k := (h.zero p0 hl hr).mp z
  refine Lot.iff (fun v hv => Lot.of (spn_snoc.mpr (.inl hv))) (fun v hv => ?_) u
  rcases spn_snoc.mp hv with hv | rfl
  · exact Lot.of hv
  · exact k
def moreL (p : Int) (q : Nat) (l : List Int) (L : List (Nat × List Int)) : List (Nat × List Int) := L.map fun x => (x.1, lessL p x.2 (x.2.getD q 0) l)
def scaled (p c : Int) (us : List Int) : List Int := us.map fun x => c * x % p
theorem vec_scaled {p c : Int} {us : List Int} : Eqv p (vec (scaled p c us)) fun i => c * vec us i := by
  intro i
  show Cg p (vec (scaled p c us) i) (c * vec us i)
  by_cases hi : i < us.length
  · have e : (scaled p c us)[i]? = some (c * us[i] % p) := by
      unfold scaled
      rw [List.getElem?_map, List.getElem?_eq_getElem hi]
      rfl
    rw [vec_some e, vec_some (List.getElem?_eq_getElem hi)]
    exact Cg.mod _
  · rw [vec_out (us := us) (by omega), vec_out (by unfold scaled; rw [List.length_map]; omega)]
    exact ⟨0, by simp⟩
theorem scaled_rg {p c : Int} {us : List Int} (p0 : 0 < p) : Rg p (scaled p c us) := by
  intro u hu
  obtain ⟨x, _, rfl⟩ := List.mem_map.mp hu
  exact ⟨Int.emod_nonneg _ (by omega), Int.emod_lt_of_pos _ p0⟩
/-- leads that are alike round p -/
theorem Leads.eqv {p : Int} {L M : List (Nat × Vc)} (h : Leads p L) (e : ∀ y ∈ M, ∃ x ∈ L, x.1 = y.1 ∧ Eqv p x.2 y.2) : Leads p M := by
  refine ⟨fun y hy => ?_, fun y hy z hz ne => ?_⟩
  · obtain ⟨x, hx, e1, e2⟩ := e y hy
    have a := h.self x hx
    rw [← e1]
    exact (e2 x.1).symm.trans a
  · obtain ⟨x, hx, e1, e2⟩ := e y hy
    obtain ⟨w, hw, e3, _⟩ := e z hz
    rw [← e1, ← e3] at ne
    have a := h.other x hx w hw ne
    rw [← e3]
    exact (e2 w.1).symm.trans a
theorem rows_eqv {p : Int} {L M : List (Nat × Vc)} (e : ∀ y ∈ M, ∃ x ∈ L, x.1 = y.1 ∧ Eqv p x.2 y.2) {v : Vc} (hv : rowsOf M v) : Lot p (rowsOf L) v := by
  obtain ⟨y, hy, rfl⟩ := hv
  obtain ⟨x, hx, _, e2⟩ := e y hy
  exact .eqv (Lot.of ⟨x, hx, rfl⟩) e2
theorem PL.step {p : Int} {n : Nat} {fs : List (List Int)} {L : List (Nat × List Int)} (p1 : 1 < p) (h : PL p n fs L) {f : List Int} (hl : f.length = n) (hr : Rg p f) {q : Nat} {u c : Int} (hu : (clearL p f L)[q]? = some u) (u0 : u ≠ 0) (ah : ∀ j, j < q → (clearL p f L)[j]? = some 0) (hc : c * u % p = 1) :
    PL p n (fs ++ [f]) (moreL p q (scaled p c (clearL p f L)) L ++ [(q, scaled p c (clearL p f L))]) := by
  have p0 : 0 < p := by omega
  have cl := clear_len (p := p) L h.len hl
  have cr := clear_rg p0 L hr
  have hq : q < n := by
    have := (List.getElem?_eq_some_iff.mp hu).1
    omega
  have sl : (scaled p c (clearL p f L)).length = n := by
    unfold scaled
    rw [List.length_map]
    exact cl
  have el : Eqv p (vec (clearL p f L)) (left (vec f) (vecs L)) := (vec_clear L h.len hl).trans (clear_left h.leads h.ndv)
  have lz : Eqv p (vec (scaled p c (clearL p f L))) fun i => c * left (vec f) (vecs L) i := fun i => (vec_scaled i).trans (Cg.rfl'.mul (el i))
  have ur : 0 ≤ u ∧ u < p := cr u (List.mem_of_getElem? hu)
  have vu : vec (clearL p f L) q = u := vec_some hu
  have h1 : Cg p (vec (scaled p c (clearL p f L)) q) 1 := by
    have a : Cg p (vec (scaled p c (clearL p f L)) q) (c * vec (clearL p f L) q) := vec_scaled q
    rw [vu] at a
    refine a.trans ?_
    have b := Cg.mod (p := p) (c * u)
    rw [hc] at b
    exact b.symm
  have h0 : ∀ x ∈ vecs L, Cg p (vec (scaled p c (clearL p f L)) x.1) 0 := fun x hx => by
    have a := (lz x.1).trans (Cg.rfl'.mul (left_at h.leads h.ndv hx))
    rw [Int.mul_zero] at a
    exact a
  have hne : ∀ x ∈ vecs L, x.1 ≠ q := fun x hx e => by
    have a := h0 x hx
    rw [e] at a
    exact one_zero p1 (h1.symm.trans a)
  have ld := leads_more h.leads h.ndv h1 h0 hne
  have al : ∀ y ∈ vecs (moreL p q (scaled p c (clearL p f L)) L ++ [(q, scaled p c (clearL p f L))]), ∃ x ∈ more q (vec (scaled p c (clearL p f L))) (vecs L) ++ [(q, vec (scaled p c (clearL p f L)))], x.1 = y.1 ∧ Eqv p x.2 y.2 := by
    intro y hy
    obtain ⟨z, hz, rfl⟩ := mem_vecs.mp hy
    rcases List.mem_append.mp hz with hz | hz
    · obtain ⟨x, hx, rfl⟩ := List.mem_map.mp hz
      refine ⟨(x.1, fun i => vec x.2 i - vec x.2 q * vec (scaled p c (clearL p f L)) i), List.mem_append.mpr (.inl (List.mem_map.mpr ⟨(x.1, vec x.2), mem_vecs.mpr ⟨x, hx, rfl⟩, rfl⟩)), rfl, ?_⟩
      exact (vec_less (by rw [sl, h.len x hx])).symm
    · rw [List.mem_singleton.mp hz]
      exact ⟨_, List.mem_append.mpr (.inr (List.mem_singleton.mpr rfl)), rfl, Eqv.refl⟩
  have al2 : ∀ x ∈ more q (vec (scaled p c (clearL p f L))) (vecs L) ++ [(q, vec (scaled p c (clearL p f L)))], ∃ y ∈ vecs (moreL p q (scaled p c (clearL p f L)) L ++ [(q, scaled p c (clearL p f L))]), y.1 = x.1 ∧ Eqv p y.2 x.2 := by
    intro x hx
    rcases List.mem_append.mp hx with hx | hx
    · obtain ⟨z, hz, rfl⟩ := List.mem_map.mp hx
      obtain ⟨y, hy, rfl⟩ := mem_vecs.mp hz
      refine ⟨_, mem_vecs.mpr ⟨(y.1, lessL p y.2 (y.2.getD q 0) (scaled p c (clearL p f L))), List.mem_append.mpr (.inl (List.mem_map.mpr ⟨y, hy, rfl⟩)), rfl⟩, rfl, ?_⟩
      exact vec_less (by rw [sl, h.len y hy])
    · rw [List.mem_singleton.mp hx]
      exact ⟨_, mem_vecs.mpr ⟨_, List.mem_append.mpr (.inr (List.mem_singleton.mpr rfl)), rfl⟩, rfl, Eqv.refl⟩
  refine ⟨fun x hx => ?_, fun x hx => ?_, fun x hx => ?_, ?_, ld.eqv al, ?_, fun v => ?_⟩
  · rcases List.mem_append.mp hx with hx | hx
    · obtain ⟨y, hy, rfl⟩ := List.mem_map.mp hx
      show (lessL p y.2 (y.2.getD q 0) (scaled p c (clearL p f L))).length = n
      rw [less_len (by rw [sl, h.len y hy])]
      exact h.len y hy
    · rw [List.mem_singleton.mp hx]
      exact sl
  · rcases List.mem_append.mp hx with hx | hx
    · obtain ⟨y, hy, rfl⟩ := List.mem_map.mp hx
      exact less_rg p0 (h.rg y hy)
    · rw [List.mem_singleton.mp hx]
      exact scaled_rg p0
  · rcases List.mem_append.mp hx with hx | hx
    · obtain ⟨y, hy, rfl⟩ := List.mem_map.mp hx
      exact h.plc y hy
    · rw [List.mem_singleton.mp hx]
      exact hq
  · rw [List.map_append]
    have e : (moreL p q (scaled p c (clearL p f L)) L).map (·.1) = L.map (·.1) := by
      unfold moreL
      rw [List.map_map]
      rfl
    rw [e]
    refine List.nodup_append.mpr ⟨h.nd, by simp, fun a ha b hb => ?_⟩
    obtain ⟨x, hx, rfl⟩ := List.mem_map.mp ha
    have hb' : b = q := by simpa using hb
    rw [hb']
    exact hne (x.1, vec x.2) (mem_vecs.mpr ⟨x, hx, rfl⟩)
  · intro y hy i hi
    obtain ⟨x, hx, e1, e2⟩ := al y hy
    refine (e2 i).symm.trans ?_
    rw [← e1] at hi
    have la : ∀ j, j < q → Cg p (vec (scaled p c (clearL p f L)) j) 0 := fun j hj => by
      have a : Cg p (vec (scaled p c (clearL p f L)) j) (c * vec (clearL p f L) j) := vec_scaled j
      rw [vec_some (ah j hj), Int.mul_zero] at a
      exact a
    rcases List.mem_append.mp hx with hx | hx
    · obtain ⟨z, hz, rfl⟩ := List.mem_map.mp hx
      show Cg p (z.2 i - z.2 q * vec (scaled p c (clearL p f L)) i) 0
      have hi : i < z.1 := hi
      have a := h.ahead z hz i hi
      have b : Cg p (z.2 q * vec (scaled p c (clearL p f L)) i) 0 := by
        by_cases hh : q < z.1
        · have b := (h.ahead z hz q hh).mul (Cg.rfl' (a := vec (scaled p c (clearL p f L)) i))
          rw [Int.zero_mul] at b
          exact b
        · have b := (Cg.rfl' (a := z.2 q)).mul (la i (by omega))
          rw [Int.mul_zero] at b
          exact b
      exact a.sub b
    · rw [List.mem_singleton.mp hx] at hi ⊢
      exact la i hi
  · have k := lot_more (q := q) (f := vec f) (L := vecs L) (c := c) (d := u) lz (by
      have b := Cg.mod (p := p) (c * u)
      rw [hc] at b
      rw [Int.mul_comm]
      exact b.symm) (u := v)
    have k1 : Lot p (rowsOf (vecs (moreL p q (scaled p c (clearL p f L)) L ++ [(q, scaled p c (clearL p f L))]))) v ↔ Lot p (rowsOf (more q (vec (scaled p c (clearL p f L))) (vecs L) ++ [(q, vec (scaled p c (clearL p f L)))])) v := Lot.iff (fun w hw => rows_eqv al hw) (fun w hw => rows_eqv al2 hw) v
    refine (k1.trans k).trans (Lot.iff (fun w hw => ?_) (fun w hw => ?_) v)
    · rcases hw with hw | rfl
      · exact Lot.sub (fun x hx => Lot.of (spn_snoc.mpr (.inl hx))) ((h.lot w).mp (Lot.of hw))
      · exact Lot.of (spn_snoc.mpr (.inr rfl))
    · rcases spn_snoc.mp hw with hw | rfl
      · exact Lot.sub (fun x hx => Lot.of (.inl hx)) ((h.lot w).mpr (Lot.of hw))
      · exact Lot.of (.inr rfl)
theorem PL.perm {p : Int} {n : Nat} {fs : List (List Int)} {L M : List (Nat × List Int)} (h : PL p n fs L) (e : L.Perm M) : PL p n fs M := by
  have ev : (vecs L).Perm (vecs M) := e.map _
  refine ⟨fun x hx => h.len x (e.mem_iff.mpr hx), fun x hx => h.rg x (e.mem_iff.mpr hx), fun x hx => h.plc x (e.mem_iff.mpr hx), (e.map (·.1)).nodup_iff.mp h.nd, ⟨fun x hx => h.leads.self x (ev.mem_iff.mpr hx), fun x hx y hy => h.leads.other x (ev.mem_iff.mpr hx) y (ev.mem_iff.mpr hy)⟩, fun x hx => h.ahead x (ev.mem_iff.mpr hx), fun u => ?_⟩
  rw [← h.lot]
  have e2 : rowsOf (vecs M) = rowsOf (vecs L) := by
    funext v
    apply propext
    exact ⟨fun ⟨x, hx, e⟩ => ⟨x, ev.mem_iff.mpr hx, e⟩, fun ⟨x, hx, e⟩ => ⟨x, ev.mem_iff.mp hx, e⟩⟩
  rw [e2]
/-- rising places -/
def Up (L : List (Nat × List Int)) : Prop := (L.map (·.1)).Pairwise (· < ·)
theorem up_ext : ∀ {xs ys : List Nat}, xs.Pairwise (· < ·) → ys.Pairwise (· < ·) → (∀ a, a ∈ xs ↔ a ∈ ys) → xs = ys
  | [], [], _, _, _ => rfl
  | [], y :: ys, _, _, h => by have := (h y).mpr (by simp); simp at this
  | x :: xs, [], _, _, h => by have := (h x).mp (by simp); simp at this
  | x :: xs, y :: ys, hx, hy, h => by
    have hx' := List.pairwise_cons.mp hx
    have hy' := List.pairwise_cons.mp hy
    have e : x = y := by
      rcases List.mem_cons.mp ((h x).mp (by simp)) with e | e
      · exact e
      · rcases List.mem_cons.mp ((h y).mpr (by simp)) with e2 | e2
        · exact e2.symm
        · have := hx'.1 y e2
          have := hy'.1 x e
          omega
    subst e
    rw [up_ext hx'.2 hy'.2 fun a => ?_]
    constructor
    · intro ha
      rcases List.mem_cons.mp ((h a).mp (List.mem_cons_of_mem _ ha)) with e | e
      · have := hx'.1 a ha
        omega
      · exact e
    · intro ha
      rcases List.mem_cons.mp ((h a).mpr (List.mem_cons_of_mem _ ha)) with e | e
      · have := hy'.1 a ha
        omega
      · exact e
/-- plain sets of one lot are one -/
theorem PL.one {p : Int} {n : Nat} {fs gs : List (List Int)} {L M : List (Nat × List Int)} (p1 : 1 < p) (hL : PL p n fs L) (hM : PL p n gs M) (uL : Up L) (uM : Up M) (e : ∀ u, Lot p (spn fs) u ↔ Lot p (spn gs) u) : L = M := by
  have p0 : 0 < p := by omega
  have sub : ∀ x ∈ vecs L, Lot p (rowsOf (vecs M)) x.2 := fun x hx => (hM.lot _).mpr ((e _).mp ((hL.lot _).mp (Lot.of ⟨x, hx, rfl⟩)))
  have sup : ∀ x ∈ vecs M, Lot p (rowsOf (vecs L)) x.2 := fun x hx => (hL.lot _).mpr ((e _).mpr ((hM.lot _).mp (Lot.of ⟨x, hx, rfl⟩)))
  have pl : L.map (·.1) = M.map (·.1) := by
    apply up_ext uL uM
    intro a
    rw [← vecs_places, ← vecs_places (L := M)]
    constructor
    · intro ha
      obtain ⟨x, hx, rfl⟩ := List.mem_map.mp ha
      obtain ⟨y, hy, ey⟩ := place_in p1 hL.leads hL.ahead hM.leads hM.ahead hM.ndv sub hx
      exact List.mem_map.mpr ⟨y, hy, ey⟩
    · intro ha
      obtain ⟨x, hx, rfl⟩ := List.mem_map.mp ha
      obtain ⟨y, hy, ey⟩ := place_in p1 hM.leads hM.ahead hL.leads hL.ahead hL.ndv sup hx
      exact List.mem_map.mpr ⟨y, hy, ey⟩
  have ll : L.length = M.length := by
    have := congrArg List.length pl
    simpa using this
  apply List.ext_getElem ll
  intro i h1 h2
  have ei : (L[i]).1 = (M[i]).1 := by
    have a : (L.map (·.1))[i]? = (M.map (·.1))[i]? := by rw [pl]
    rw [List.getElem?_map, List.getElem?_map, List.getElem?_eq_getElem h1, List.getElem?_eq_getElem h2] at a
    exact Option.some.inj a
  have m1 := List.getElem_mem h1
  have m2 := List.getElem_mem h2
  have k := plain_same p1 hL.leads hL.ahead hL.ndv hM.leads hM.ahead hM.ndv sub sup (mem_vecs.mpr ⟨_, m1, rfl⟩) (mem_vecs.mpr ⟨_, m2, rfl⟩) ei.symm
  have e2 : (L[i]).2 = (M[i]).2 := list_eq p0 (by rw [hL.len _ m1, hM.len _ m2]) (hL.rg _ m1) (hM.rg _ m2) k
  exact Prod.ext ei e2
/-! ### rows of pairs -/
def flatR (r : List (Int × Int)) : List Int := r.flatMap fun u => [u.1, u.2]
theorem flat_cons (u : Int × Int) (r : List (Int × Int)) : flatR (u :: r) = u.1 :: u.2 :: flatR r := rfl
theorem flat_len : ∀ r : List (Int × Int), (flatR r).length = 2 * r.length
  | [] => rfl
  | u :: r => by
    rw [flat_cons, List.length_cons, List.length_cons, flat_len r, List.length_cons]
    omega
theorem flat_snoc (r : List (Int × Int)) (u : Int × Int) : flatR (r ++ [u]) = flatR r ++ [u.1, u.2] := by
  unfold flatR
  rw [List.flatMap_append]
  rfl
theorem flat_inj : ∀ {r s : List (Int × Int)}, flatR r = flatR s → r = s
  | [], [], _ => rfl
  | [], _ :: _, h => by simp [flatR] at h
  | _ :: _, [], h => by simp [flatR] at h
  | u :: r, v :: s, h => by
    rw [flat_cons, flat_cons] at h
    obtain ⟨h1, h⟩ := List.cons.inj h
    obtain ⟨h2, h⟩ := List.cons.inj h
    rw [flat_inj h, Prod.ext h1 h2]
theorem vec_zero {a : Int} {us : List Int} : vec (a :: us) 0 = a := rfl
theorem vec_succ {a : Int} {us : List Int} {i : Nat} : vec (a :: us) (i + 1) = vec us i := by
  show (a :: us).getD (i + 1) 0 = us.getD i 0
  rw [List.getD_eq_getElem?_getD, List.getD_eq_getElem?_getD]
  rfl
def addP (p : Int) (r s : List (Int × Int)) : List (Int × Int) := List.zipWith (fun u v => ((u.1 + v.1) % p, (u.2 + v.2) % p)) r s
def timP (p n : Int) (r : List (Int × Int)) : List (Int × Int) := r.map fun u => (n * u.1 % p, n * u.2 % p)
theorem vec_addP {p : Int} : ∀ {r s : List (Int × Int)}, r.length = s.length → Eqv p (vec (flatR (addP p r s))) fun i => vec (flatR r) i + vec (flatR s) i
  | [], [], _ => fun i => ⟨0, by simp [addP, flatR, vec]⟩
  | [], _ :: _, h => by simp at h
  | _ :: _, [], h => by simp at h
  | u :: r, v :: s, h => fun i => by
    have e : addP p (u :: r) (v :: s) = ((u.1 + v.1) % p, (u.2 + v.2) % p) :: addP p r s := rfl
    rw [e, flat_cons]
    show Cg p (vec ((u.1 + v.1) % p :: (u.2 + v.2) % p :: flatR (addP p r s)) i) (vec (flatR (u :: r)) i + vec (flatR (v :: s)) i)
    rw [flat_cons, flat_cons]
    match i with
    | 0 => exact Cg.mod _
    | 1 => exact Cg.mod _
    | i + 2 =>
      rw [vec_succ, vec_succ, vec_succ, vec_succ, vec_succ, vec_succ]
      exact vec_addP (by simpa using h) i
theorem vec_timP {p n : Int} : ∀ {r : List (Int × Int)}, Eqv p (vec (flatR (timP p n r))) fun i => n * vec (flatR r) i
  | [] => fun i => ⟨0, by simp [timP, flatR, vec]⟩
  | u :: r => fun i => by
    have e : timP p n (u :: r) = (n * u.1 % p, n * u.2 % p) :: timP p n r := rfl
    rw [e, flat_cons]
    show Cg p (vec (n * u.1 % p :: n * u.2 % p :: flatR (timP p n r)) i) (n * vec (flatR (u :: r)) i)
    rw [flat_cons]
    match i with
    | 0 => exact Cg.mod _
    | 1 => exact Cg.mod _
    | i + 2 =>
      rw [vec_succ, vec_succ, vec_succ, vec_succ]
      exact vec_timP i
theorem vec_noP {i : Nat} : ∀ n : Nat, vec (flatR (List.replicate n ((0 : Int), (0 : Int)))) i = 0
  | 0 => rfl
  | n + 1 => by
    rw [List.replicate_succ, flat_cons]
    match i with
    | 0 => rfl
    | 1 => rfl
    | i + 2 =>
      rw [vec_succ, vec_succ]
      exact vec_noP n
theorem add_lenP {p : Int} {r s : List (Int × Int)} (h : r.length = s.length) : (addP p r s).length = r.length := by
  unfold addP
  rw [List.length_zipWith]
  omega
theorem tim_lenP {p n : Int} {r : List (Int × Int)} : (timP p n r).length = r.length := by
  unfold timP
  rw [List.length_map]
/-- sums of multiples of rows -/
def sumP (p : Int) (acc : List (Int × Int)) : List (Int × List (Int × Int)) → List (Int × Int)
  | [] => acc
  | x :: l => sumP p (addP p acc (timP p x.1 x.2)) l
theorem sum_snoc {p : Int} {x : Int × List (Int × Int)} : ∀ (l : List (Int × List (Int × Int))) (acc : List (Int × Int)), sumP p acc (l ++ [x]) = addP p (sumP p acc l) (timP p x.1 x.2)
  | [], _ => rfl
  | _ :: l, _ => sum_snoc l _
theorem sum_lenP {p : Int} {n : Nat} : ∀ (l : List (Int × List (Int × Int))) {acc : List (Int × Int)}, (∀ x ∈ l, x.2.length = n) → acc.length = n → (sumP p acc l).length = n
  | [], _, _, h => h
  | x :: l, acc, hl, h => sum_lenP l (fun y hy => hl y (List.mem_cons_of_mem _ hy)) (by rw [add_lenP (by rw [tim_lenP, h, hl x (by simp)])]; exact h)
def combV : List (Int × Vc) → Vc
  | [] => fun _ => 0
  | x :: l => fun i => x.1 * x.2 i + combV l i
def pairV (l : List (Int × List (Int × Int))) : List (Int × Vc) := l.map fun x => (x.1, vec (flatR x.2))
theorem vec_sumP {p : Int} {n : Nat} : ∀ (l : List (Int × List (Int × Int))) {acc : List (Int × Int)}, (∀ x ∈ l, x.2.length = n) → acc.length = n → Eqv p (vec (flatR (sumP p acc l))) fun i => vec (flatR acc) i + combV (pairV l) i
  | [], _, _, _ => fun i => ⟨0, by simp [sumP, pairV, combV]⟩
  | x :: l, acc, hl, h => fun i => by
    have e : acc.length = (timP p x.1 x.2).length := by rw [tim_lenP, h, hl x (by simp)]
    have a := vec_sumP (p := p) l (acc := addP p acc (timP p x.1 x.2)) (fun y hy => hl y (List.mem_cons_of_mem _ hy)) (by rw [add_lenP e]; exact h) i
    refine a.trans ?_
    have b := (vec_addP (p := p) e i).trans (Cg.rfl'.add (vec_timP i))
    have c := Cg.add b (Cg.rfl' (a := combV (pairV l) i))
    have d : vec (flatR acc) i + x.1 * vec (flatR x.2) i + combV (pairV l) i = vec (flatR acc) i + combV (pairV (x :: l)) i := by
      show _ = vec (flatR acc) i + (x.1 * vec (flatR x.2) i + combV (pairV l) i)
      omega
    rw [d] at c
    exact c
theorem comb_lot {p : Int} {R : Vc → Prop} : ∀ {l : List (Int × Vc)}, (∀ x ∈ l, R x.2) → Lot p R (combV l)
  | [], _ => .zero
  | x :: l, h => .eqv (Lot.comb x.1 (comb_lot (l := l) fun y hy => h y (List.mem_cons_of_mem _ hy)) (Lot.of (h x (by simp)))) fun i => ⟨0, by simp only [combV]; grind⟩
/-- the sum of rows is in their lot -/
theorem sum_lot {p : Int} {n : Nat} {l : List (Int × List (Int × Int))} {rs : List (List (Int × Int))} (hl : ∀ x ∈ l, x.2.length = n) (hm : ∀ x ∈ l, x.2 ∈ rs) : Lot p (spn (rs.map flatR)) (vec (flatR (sumP p (List.replicate n ((0 : Int), (0 : Int))) l))) := by
  have a : Lot p (spn (rs.map flatR)) (combV (pairV l)) := comb_lot fun y hy => by
    obtain ⟨x, hx, rfl⟩ := List.mem_map.mp hy
    exact ⟨flatR x.2, List.mem_map.mpr ⟨x.2, hm x hx, rfl⟩, rfl⟩
  refine .eqv a fun i => Cg.symm ?_
  have b := vec_sumP (p := p) l (acc := List.replicate n ((0 : Int), (0 : Int))) hl (by simp) i
  have e : vec (flatR (List.replicate n ((0 : Int), (0 : Int)))) i + combV (pairV l) i = combV (pairV l) i := by
    rw [vec_noP]
    omega
  dsimp only at b
  rw [e] at b
  exact b
theorem own_comb_eq {u : Vc} : ∀ {L : List (Nat × List Int)} {i : Nat}, own u (vecs L) i = combV (L.map fun x => (u x.1, vec x.2)) i
  | [], _ => rfl
  | x :: L, i => by
    show u x.1 * vec x.2 i + own u (vecs L) i = u x.1 * vec x.2 i + combV (L.map fun x => (u x.1, vec x.2)) i
    rw [own_comb_eq (L := L)]
/-- a row is the sum by its own numbers at the places of a plain set just where it is in the lot -/
theorem is_sum_iff {p : Int} {n : Nat} {rs : List (List (Int × Int))} {qs : List Nat} {r : List (Int × Int)} (p0 : 0 < p) (hl : ∀ x ∈ rs, x.length = n) (hq : qs.length = rs.length) (pl : PL p (2 * n) (rs.map flatR) (qs.zip (rs.map flatR))) (hr : r.length = n) (rg : Rg p (flatR r)) (srg : Rg p (flatR (sumP p (List.replicate n ((0 : Int), (0 : Int))) ((qs.map (vec (flatR r))).zip rs)))) :
    sumP p (List.replicate n ((0 : Int), (0 : Int))) ((qs.map (vec (flatR r))).zip rs) = r ↔ Lot p (spn (rs.map flatR)) (vec (flatR r)) := by
  have mem : ∀ x ∈ (qs.map (vec (flatR r))).zip rs, x.2.length = n := fun x hx => hl _ (List.of_mem_zip hx).2
  have key : Eqv p (vec (flatR (sumP p (List.replicate n ((0 : Int), (0 : Int))) ((qs.map (vec (flatR r))).zip rs)))) (own (vec (flatR r)) (vecs (qs.zip (rs.map flatR)))) := fun i => by
    have b := vec_sumP (p := p) ((qs.map (vec (flatR r))).zip rs) (acc := List.replicate n ((0 : Int), (0 : Int))) mem (by simp) i
    have e : vec (flatR (List.replicate n ((0 : Int), (0 : Int)))) i + combV (pairV ((qs.map (vec (flatR r))).zip rs)) i = own (vec (flatR r)) (vecs (qs.zip (rs.map flatR))) i := by
      rw [vec_noP, own_comb_eq]
      have e2 : pairV ((qs.map (vec (flatR r))).zip rs) = (qs.zip (rs.map flatR)).map fun x => (vec (flatR r) x.1, vec x.2) := by
        unfold pairV
        apply List.ext_getElem?
        intro j
        simp only [List.getElem?_map, List.getElem?_zip_eq_some, List.zip, List.getElem?_zipWith]
        cases qs[j]? with
        | none => rfl
        | some a =>
          cases rs[j]? with
          | none => rfl
          | some b => rfl
      rw [e2]
      omega
    dsimp only at b
    rw [e] at b
    exact b
  rw [← pl.lot, lot_iff pl.leads pl.ndv]
  constructor
  · intro h
    rw [h] at key
    exact key.symm
  · intro h
    apply flat_inj
    exact list_eq p0 (by rw [flat_len, flat_len, sum_lenP _ mem (by simp), hr]) srg rg (key.trans h)
/-! ### rows stirred -/
theorem lot_set_add {p c : Int} {fs : List (List Int)} {i j : Nat} {f g h : List Int} (ne : i ≠ j) (hi : fs[i]? = some f) (hj : fs[j]? = some g) (e : Eqv p (vec h) fun k => vec f k + c * vec g k) (u : Vc) : Lot p (spn (fs.set i h)) u ↔ Lot p (spn fs) u := by
  have il : i < fs.length := (List.getElem?_eq_some_iff.mp hi).1
  have gin : g ∈ fs.set i h := List.mem_of_getElem? (i := j) (by rw [List.getElem?_set_ne ne]; exact hj)
  have hin : h ∈ fs.set i h := List.mem_set il h
  refine Lot.iff (fun v hv => ?_) (fun v hv => ?_) u
  · obtain ⟨k, hk, rfl⟩ := hv
    rcases List.mem_or_eq_of_mem_set hk with m | m
    · exact Lot.of ⟨k, m, rfl⟩
    · rw [m]
      exact .eqv (Lot.comb c (Lot.of ⟨f, List.mem_of_getElem? hi, rfl⟩) (Lot.of ⟨g, List.mem_of_getElem? hj, rfl⟩)) e.symm
  · obtain ⟨k, hk, rfl⟩ := hv
    obtain ⟨m, hm, rfl⟩ := List.mem_iff_getElem.mp hk
    by_cases e2 : m = i
    · subst e2
      have z : fs[m] = f := by
        rw [List.getElem?_eq_getElem hm] at hi
        exact Option.some.inj hi
      rw [z]
      refine .eqv (Lot.comb (-c) (Lot.of ⟨h, hin, rfl⟩) (Lot.of ⟨g, gin, rfl⟩)) fun k => ?_
      have a := (e k).add (Cg.rfl' (a := -c * vec g k))
      have b : vec f k + c * vec g k + -c * vec g k = vec f k := by grind
      rw [b] at a
      exact a
    · exact Lot.of ⟨fs[m], List.mem_of_getElem? (i := m) (by rw [List.getElem?_set_ne (fun z => e2 z.symm), List.getElem?_eq_getElem hm]), rfl⟩
theorem lot_set_mul {p c d : Int} {fs : List (List Int)} {i : Nat} {f h : List Int} (hi : fs[i]? = some f) (e : Eqv p (vec h) fun k => c * vec f k) (hd : Cg p (d * c) 1) (u : Vc) : Lot p (spn (fs.set i h)) u ↔ Lot p (spn fs) u := by
  have il : i < fs.length := (List.getElem?_eq_some_iff.mp hi).1
  have hin : h ∈ fs.set i h := List.mem_set il h
  refine Lot.iff (fun v hv => ?_) (fun v hv => ?_) u
  · obtain ⟨k, hk, rfl⟩ := hv
    rcases List.mem_or_eq_of_mem_set hk with m | m
    · exact Lot.of ⟨k, m, rfl⟩
    · rw [m]
      refine .eqv (Lot.comb c .zero (Lot.of ⟨f, List.mem_of_getElem? hi, rfl⟩)) fun k => ?_
      have z : (0 : Int) + c * vec f k = c * vec f k := by omega
      show Cg p (0 + c * vec f k) _
      rw [z]
      exact (e k).symm
  · obtain ⟨k, hk, rfl⟩ := hv
    obtain ⟨m, hm, rfl⟩ := List.mem_iff_getElem.mp hk
    by_cases e2 : m = i
    · subst e2
      have z : fs[m] = f := by
        rw [List.getElem?_eq_getElem hm] at hi
        exact Option.some.inj hi
      rw [z]
      refine .eqv (Lot.comb d .zero (Lot.of ⟨h, hin, rfl⟩)) fun k => ?_
      have a := (Cg.rfl' (p := p) (a := d)).mul (e k)
      have b := hd.mul (Cg.rfl' (a := vec f k))
      have z1 : d * (c * vec f k) = d * c * vec f k := by grind
      have z2 : (1 : Int) * vec f k = vec f k := by omega
      have z3 : (0 : Int) + d * vec h k = d * vec h k := by omega
      show Cg p (0 + d * vec h k) _
      rw [z3]
      have a' : Cg p (d * vec h k) (d * (c * vec f k)) := a
      rw [z1] at a'
      rw [z2] at b
      exact a'.trans b
    · exact Lot.of ⟨fs[m], List.mem_of_getElem? (i := m) (by rw [List.getElem?_set_ne (fun z => e2 z.symm), List.getElem?_eq_getElem hm]), rfl⟩
/-- a row of the lot put in anywhere -/
theorem lot_more_rows {p : Int} {fs gs : List (List Int)} {f : List Int} (hf : Lot p (spn fs) (vec f)) (hg : ∀ g, g ∈ gs ↔ g ∈ fs ∨ g = f) (u : Vc) : Lot p (spn gs) u ↔ Lot p (spn fs) u := by
  refine Lot.iff (fun v hv => ?_) (fun v hv => ?_) u
  · obtain ⟨k, hk, rfl⟩ := hv
    rcases (hg k).mp hk with m | m
    · exact Lot.of ⟨k, m, rfl⟩
    · rw [m]
      exact hf
  · obtain ⟨k, hk, rfl⟩ := hv
    exact Lot.of ⟨k, (hg k).mpr (.inl hk), rfl⟩
/-! ### a plain set that is drawn -/
structure Pln (p : Int) (n : Nat) (qs : List Nat) (fs : List (List Int)) : Prop where
  len : fs.length = qs.length
  up : qs.Pairwise (· < ·)
  lt : ∀ q ∈ qs, q < n
  row : ∀ (i q : Nat) (f : List Int), qs[i]? = some q → fs[i]? = some f → f.length = n ∧ Rg p f ∧ (∀ j, j < q → vec f j = 0) ∧ vec f q = 1 ∧ ∀ o ∈ qs, q < o → vec f o = 0
theorem mem_zip_get {qs : List Nat} {fs : List (List Int)} {x : Nat × List Int} (h : x ∈ qs.zip fs) : ∃ i : Nat, qs[i]? = some x.1 ∧ fs[i]? = some x.2 := by
  obtain ⟨i, hi, e⟩ := List.mem_iff_getElem.mp h
  have hi' : i < qs.length ∧ i < fs.length := by
    rw [List.length_zip] at hi
    omega
  refine ⟨i, ?_, ?_⟩
  · rw [← e, List.getElem_zip, List.getElem?_eq_getElem hi'.1]
  · rw [← e, List.getElem_zip, List.getElem?_eq_getElem hi'.2]
theorem zip_places : ∀ {qs : List Nat} {fs : List (List Int)}, fs.length = qs.length → (qs.zip fs).map (·.1) = qs
  | [], _, _ => rfl
  | _ :: _, [], h => by simp at h
  | q :: qs, f :: fs, h => by
    rw [List.zip_cons_cons, List.map_cons, zip_places (by simpa using h)]
theorem Pln.pl {p : Int} {n : Nat} {qs : List Nat} {fs : List (List Int)} (h : Pln p n qs fs) : PL p n fs (qs.zip fs) ∧ Up (qs.zip fs) := by
  have pls := zip_places h.len
  refine ⟨⟨fun x hx => ?_, fun x hx => ?_, fun x hx => ?_, ?_, ⟨fun y hy => ?_, fun y hy z hz ne => ?_⟩, fun y hy i hi => ?_, fun u => ?_⟩, ?_⟩
  · obtain ⟨i, h1, h2⟩ := mem_zip_get hx
    exact (h.row i _ _ h1 h2).1
  · obtain ⟨i, h1, h2⟩ := mem_zip_get hx
    exact (h.row i _ _ h1 h2).2.1
  · exact h.lt _ (List.of_mem_zip hx).1
  · rw [pls]
    exact h.up.imp fun {a b} h => Nat.ne_of_lt h
  · obtain ⟨x, hx, rfl⟩ := mem_vecs.mp hy
    obtain ⟨i, h1, h2⟩ := mem_zip_get hx
    show Cg p (vec x.2 x.1) 1
    rw [(h.row i _ _ h1 h2).2.2.2.1]
    exact Cg.rfl'
  · obtain ⟨x, hx, rfl⟩ := mem_vecs.mp hy
    obtain ⟨w, hw, rfl⟩ := mem_vecs.mp hz
    obtain ⟨i, h1, h2⟩ := mem_zip_get hx
    have r := h.row i _ _ h1 h2
    show Cg p (vec x.2 w.1) 0
    have ne' : x.1 ≠ w.1 := ne
    rcases Nat.lt_or_ge w.1 x.1 with l | l
    · rw [r.2.2.1 _ l]
      exact Cg.rfl'
    · rw [r.2.2.2.2 w.1 (List.of_mem_zip hw).1 (by omega)]
      exact Cg.rfl'
  · obtain ⟨x, hx, rfl⟩ := mem_vecs.mp hy
    obtain ⟨j, h1, h2⟩ := mem_zip_get hx
    show Cg p (vec x.2 i) 0
    rw [(h.row j _ _ h1 h2).2.2.1 i hi]
    exact Cg.rfl'
  · have e : rowsOf (vecs (qs.zip fs)) = spn fs := by
      funext v
      apply propext
      constructor
      · rintro ⟨y, hy, rfl⟩
        obtain ⟨x, hx, rfl⟩ := mem_vecs.mp hy
        exact ⟨x.2, (List.of_mem_zip hx).2, rfl⟩
      · rintro ⟨f, hf, rfl⟩
        obtain ⟨i, hi, rfl⟩ := List.mem_iff_getElem.mp hf
        have hq : i < qs.length := by rw [← h.len]; exact hi
        refine ⟨(qs[i], vec fs[i]), mem_vecs.mpr ⟨(qs[i], fs[i]), ?_, rfl⟩, rfl⟩
        exact List.mem_iff_getElem.mpr ⟨i, by rw [List.length_zip]; omega, by rw [List.getElem_zip]⟩
    rw [e]
  · show ((qs.zip fs).map (·.1)).Pairwise (· < ·)
    rw [pls]
    exact h.up
/-! ### a list of numbers as a row -/
def ev2 {α : Type} : List α → List α
  | [] => []
  | [a] => [a]
  | a :: _ :: r => a :: ev2 r
theorem ev2_cons {α : Type} (b : α) : ∀ r : List α, ev2 (b :: r) = b :: ev2 (r.drop 1)
  | [] => rfl
  | _ :: _ => rfl
def rowL (us : List Int) : List (Int × Int) := (ev2 us).zip (ev2 (us.drop 1))
theorem rowL_flat : ∀ (m : Nat) (us : List Int), us.length = 2 * m → flatR (rowL us) = us ∧ (rowL us).length = m
  | 0, [], _ => ⟨rfl, rfl⟩
  | 0, _ :: _, h => by simp at h
  | m + 1, [], h => by simp at h
  | m + 1, [_], h => by simp at h; omega
  | m + 1, a :: b :: r, h => by
    have hr : r.length = 2 * m := by
      simp only [List.length_cons] at h
      omega
    obtain ⟨h1, h2⟩ := rowL_flat m r hr
    have e : rowL (a :: b :: r) = (a, b) :: rowL r := by
      show (a :: ev2 r).zip (ev2 (b :: r)) = _
      rw [ev2_cons]
      rfl
    rw [e]
    exact ⟨by rw [flat_cons, h1], by rw [List.length_cons, h2]⟩
theorem erase_perm {α : Type} {ps : List α} {k : Nat} {x : α} (h : ps[k]? = some x) (qs : List α) : (ps.eraseIdx k ++ (qs ++ [x])).Perm (ps ++ qs) := by
  have hk := (List.getElem?_eq_some_iff.mp h).1
  have e1 : ps.eraseIdx k = ps.take k ++ ps.drop (k + 1) := List.eraseIdx_eq_take_drop_succ ps k
  have e2 : ps = ps.take k ++ x :: ps.drop (k + 1) := by
    have z : x = ps[k] := by
      rw [List.getElem?_eq_getElem hk] at h
      exact (Option.some.inj h).symm
    rw [z, ← List.drop_eq_getElem_cons hk, List.take_append_drop]
  rw [e1]
  conv => rhs; rw [e2]
  rw [List.append_assoc, List.append_assoc]
  refine List.Perm.append_left _ ?_
  rw [List.cons_append, ← List.append_assoc]
  exact List.perm_append_singleton x _
/-! ### mirrors -/
def shf (u : Vc) : Vc := fun i => u (i + 1)
/-- the sum of products, place by place -/
def dot : Vc → Vc → Nat → Int
  | _, _, 0 => 0
  | u, v, n + 1 => u 0 * v 0 + dot (shf u) (shf v) n
theorem dot_comb {c : Int} : ∀ (n : Nat) (u v w : Vc), dot u (fun i => v i + c * w i) n = dot u v n + c * dot u w n
  | 0, _, _, _ => by simp [dot]
  | n + 1, u, v, w => by
    have ih := dot_comb (c := c) n (shf u) (shf v) (shf w)
    show u 0 * (v 0 + c * w 0) + dot (shf u) (fun i => shf v i + c * shf w i) n = u 0 * v 0 + dot (shf u) (shf v) n + c * (u 0 * w 0 + dot (shf u) (shf w) n)
    rw [ih]
    grind
theorem dot_combL {c : Int} : ∀ (n : Nat) (u v w : Vc), dot (fun i => u i + c * v i) w n = dot u w n + c * dot v w n
  | 0, _, _, _ => by simp [dot]
  | n + 1, u, v, w => by
    have ih := dot_combL (c := c) n (shf u) (shf v) (shf w)
    show (u 0 + c * v 0) * w 0 + dot (fun i => shf u i + c * shf v i) (shf w) n = u 0 * w 0 + dot (shf u) (shf w) n + c * (v 0 * w 0 + dot (shf v) (shf w) n)
    rw [ih]
    grind
theorem dot_eqv {p : Int} : ∀ (n : Nat) {u v w x : Vc}, Eqv p u v → Eqv p w x → Cg p (dot u w n) (dot v x n)
  | 0, _, _, _, _, _, _ => Cg.rfl'
  | n + 1, _, _, _, _, h, k => ((h 0).mul (k 0)).add (dot_eqv n (fun i => h (i + 1)) fun i => k (i + 1))
theorem dot_zero : ∀ (n : Nat) (u : Vc), dot u (fun _ => 0) n = 0
  | 0, _ => rfl
  | n + 1, u => by
    show u 0 * 0 + dot (shf u) (fun _ => 0) n = 0
    rw [dot_zero n]
    simp
theorem dot_zeroL : ∀ (n : Nat) (u : Vc), dot (fun _ => 0) u n = 0
  | 0, _ => rfl
  | n + 1, u => by
    show 0 * u 0 + dot (fun _ => 0) (shf u) n = 0
    rw [dot_zeroL n]
    simp
theorem dot_comm : ∀ (n : Nat) (u v : Vc), dot u v n = dot v u n
  | 0, _, _ => rfl
  | n + 1, u, v => by
    show u 0 * v 0 + dot (shf u) (shf v) n = v 0 * u 0 + dot (shf v) (shf u) n
    rw [dot_comm n, Int.mul_comm]
def un (j : Nat) : Vc := fun i => if i = j then 1 else 0
theorem shf_un0 : shf (un 0) = fun _ => 0 := by
  funext i
  show (if i + 1 = 0 then (1 : Int) else 0) = 0
  rw [if_neg (by omega)]
theorem shf_unS {j : Nat} : shf (un (j + 1)) = un j := by
  funext i
  show (if i + 1 = j + 1 then (1 : Int) else 0) = if i = j then 1 else 0
  by_cases h : i = j
  · rw [if_pos h, if_pos (by omega)]
  · rw [if_neg h, if_neg (by omega)]
theorem dot_un : ∀ (n j : Nat) (u : Vc), j < n → dot u (un j) n = u j
  | 0, _, _, h => absurd h (Nat.not_lt_zero _)
  | n + 1, 0, u, _ => by
    show u 0 * 1 + dot (shf u) (shf (un 0)) n = u 0
    rw [shf_un0, dot_zero]
    omega
  | n + 1, j + 1, u, h => by
    show u 0 * 0 + dot (shf u) (shf (un (j + 1))) n = u (j + 1)
    rw [shf_unS, dot_un n j (shf u) (by omega)]
    show u 0 * 0 + u (j + 1) = u (j + 1)
    omega
/-- sums of units -/
def cu (a : Nat × Vc → Int) : List (Nat × Vc) → Vc
  | [] => fun _ => 0
  | x :: L => fun i => a x * un x.1 i + cu a L i
theorem dot_cu {a : Nat × Vc → Int} {n : Nat} {u : Vc} : ∀ {L : List (Nat × Vc)}, (∀ x ∈ L, x.1 < n) → dot u (cu a L) n = combV (L.map fun x => (u x.1, fun _ => a x)) 0
  | [], _ => dot_zero n u
  | x :: L, h => by
    have ih := dot_cu (a := a) (u := u) (L := L) fun y hy => h y (List.mem_cons_of_mem _ hy)
    have e : cu a (x :: L) = fun i => cu a L i + a x * un x.1 i := by
      funext i
      show a x * un x.1 i + cu a L i = _
      omega
    rw [e, dot_comb, ih, dot_un n x.1 u (h x (by simp))]
    show combV (L.map fun x => (u x.1, fun _ => a x)) 0 + a x * u x.1 = u x.1 * a x + combV (L.map fun x => (u x.1, fun _ => a x)) 0
    rw [Int.mul_comm]
    omega
theorem own_as {u : Vc} {f : Nat} : ∀ {L : List (Nat × Vc)}, combV (L.map fun x => (u x.1, fun _ => x.2 f)) 0 = own u L f
  | [] => rfl
  | x :: L => by
    show u x.1 * x.2 f + combV (L.map fun x => (u x.1, fun _ => x.2 f)) 0 = u x.1 * x.2 f + own u L f
    rw [own_as]
/-- the row that is free at f -/
def frV (f : Nat) (L : List (Nat × Vc)) : Vc := fun i => un f i + -1 * cu (fun x => x.2 f) L i
theorem dot_fr {n f : Nat} {L : List (Nat × Vc)} {u : Vc} (hf : f < n) (hL : ∀ x ∈ L, x.1 < n) : dot u (frV f L) n = left u L f := by
  show dot u (fun i => un f i + -1 * cu (fun x => x.2 f) L i) n = u f - own u L f
  rw [dot_comb, dot_un n f u hf, dot_cu hL, own_as]
  omega
theorem cu_out {a : Nat × Vc → Int} {i : Nat} : ∀ {L : List (Nat × Vc)}, (∀ x ∈ L, x.1 ≠ i) → cu a L i = 0
  | [], _ => rfl
  | x :: L, h => by
    show a x * un x.1 i + cu a L i = 0
    rw [cu_out fun y hy => h y (List.mem_cons_of_mem _ hy)]
    have e : un x.1 i = 0 := if_neg fun z => h x (by simp) z.symm
    rw [e]
    simp
theorem cu_at {a : Nat × Vc → Int} : ∀ {L : List (Nat × Vc)}, (L.map (·.1)).Nodup → ∀ {x : Nat × Vc}, x ∈ L → cu a L x.1 = a x
  | [], _, _, h => by cases h
  | y :: L, nd, x, h => by
    have nd' := List.nodup_cons.mp (by simpa using nd : (y.1 :: L.map (·.1)).Nodup)
    show a y * un y.1 x.1 + cu a L x.1 = a x
    rcases List.mem_cons.mp h with rfl | h
    · rw [cu_out fun z hz e => nd'.1 (by rw [← e]; exact List.mem_map.mpr ⟨z, hz, rfl⟩)]
      have e : un x.1 x.1 = 1 := if_pos rfl
      rw [e]
      omega
    · have ne : x.1 ≠ y.1 := fun e => nd'.1 (by rw [← e]; exact List.mem_map.mpr ⟨x, h, rfl⟩)
      have e : un y.1 x.1 = 0 := if_neg ne
      rw [e, cu_at nd'.2 h]
      omega
theorem fr_self {f : Nat} {L : List (Nat × Vc)} (h : ∀ x ∈ L, x.1 ≠ f) : frV f L f = 1 := by
  show un f f + -1 * cu (fun x => x.2 f) L f = 1
  rw [cu_out h]
  have e : un f f = 1 := if_pos rfl
  rw [e]
  omega
theorem fr_other {f g : Nat} {L : List (Nat × Vc)} (h : ∀ x ∈ L, x.1 ≠ g) (ne : f ≠ g) : frV f L g = 0 := by
  show un f g + -1 * cu (fun x => x.2 f) L g = 0
  rw [cu_out h]
  have e : un f g = 0 := if_neg fun z => ne z.symm
  rw [e]
  omega
/-- nothing from n on -/
def Sup (n : Nat) (u : Vc) : Prop := ∀ i, n ≤ i → u i = 0
theorem sup_vec {n : Nat} {us : List Int} (h : us.length = n) : Sup n (vec us) := fun i hi => vec_out (by omega)
theorem dot_lotR {p : Int} {n : Nat} {R : Vc → Prop} {u v : Vc} (h : Lot p R v) (k : ∀ w, R w → Cg p (dot u w n) 0) : Cg p (dot u v n) 0 := by
  induction h with
  | zero =>
    rw [dot_zero]
    exact Cg.rfl'
  | add c _ r ih =>
    rw [dot_comb]
    have a := ih.add ((Cg.rfl' (a := c)).mul (k _ r))
    rw [Int.mul_zero] at a
    exact a
  | eqv _ e ih => exact (dot_eqv n Eqv.refl e).symm.trans ih
theorem dot_lotL {p : Int} {n : Nat} {R : Vc → Prop} {u v : Vc} (h : Lot p R u) (k : ∀ w, R w → Cg p (dot w v n) 0) : Cg p (dot u v n) 0 := by
  rw [dot_comm]
  exact dot_lotR h fun w hw => by
    rw [dot_comm]
    exact k w hw
/-- free rows of leads: what they span is just what all the leads make 0 with -/
theorem fr_ker {p : Int} {n : Nat} {L : List (Nat × Vc)} {fs : List Nat} (hL : Leads p L) (nd : (L.map (·.1)).Nodup) (pl : ∀ x ∈ L, x.1 < n) (hf : ∀ f, f ∈ fs ↔ f < n ∧ ∀ x ∈ L, x.1 ≠ f) (ndf : fs.Nodup) {w : Vc} (sw : Sup n w) :
    Lot p (fun v => ∃ f ∈ fs, v = frV f L) w ↔ ∀ x ∈ L, Cg p (dot x.2 w n) 0 := by
  have z : ∀ f ∈ fs, ∀ x ∈ L, Cg p (dot x.2 (frV f L) n) 0 := fun f h x hx => by
    rw [dot_fr ((hf f).mp h).1 pl]
    exact (lot_left hL nd).mp (Lot.of ⟨x, hx, rfl⟩) f
  constructor
  · intro h x hx
    exact dot_lotR h fun v ⟨f, hf', e⟩ => by
      rw [e]
      exact z f hf' x hx
  · intro h
    have M : Leads p (fs.map fun f => (f, frV f L)) := by
      refine ⟨fun y hy => ?_, fun y hy y' hy' ne => ?_⟩
      · obtain ⟨f, h1, rfl⟩ := List.mem_map.mp hy
        show Cg p (frV f L f) 1
        rw [fr_self ((hf f).mp h1).2]
        exact Cg.rfl'
      · obtain ⟨f, h1, rfl⟩ := List.mem_map.mp hy
        obtain ⟨g, h2, rfl⟩ := List.mem_map.mp hy'
        show Cg p (frV f L g) 0
        rw [fr_other ((hf g).mp h2).2 ne]
        exact Cg.rfl'
    have ndM : ((fs.map fun f => (f, frV f L)).map (·.1)).Nodup := by
      rw [List.map_map]
      have e : ((fun x : Nat × Vc => x.1) ∘ fun f => (f, frV f L)) = id := rfl
      rw [e, List.map_id]
      exact ndf
    have key : Eqv p (left w (fs.map fun f => (f, frV f L))) fun _ => 0 := by
      have atf : ∀ f ∈ fs, Cg p (left w (fs.map fun f => (f, frV f L)) f) 0 := fun f h1 => left_at M ndM (x := (f, frV f L)) (List.mem_map.mpr ⟨f, h1, rfl⟩)
      have ownz : ∀ i, n ≤ i → own w (fs.map fun f => (f, frV f L)) i = 0 := fun i hi => by
        have all : ∀ gs : List Nat, (∀ g ∈ gs, g < n) → own w (gs.map fun f => (f, frV f L)) i = 0 := by
          intro gs
          induction gs with
          | nil => intro _; rfl
          | cons g gs ih =>
            intro hg
            show w g * frV g L i + own w (gs.map fun f => (f, frV f L)) i = 0
            have e0 : frV g L i = 0 := fr_other (fun x hx e => by have := pl x hx; omega) (by have := hg g (by simp); omega)
            rw [ih fun g' h' => hg g' (List.mem_cons_of_mem _ h'), e0]
            simp
        exact all fs fun g h1 => ((hf g).mp h1).1
      have out : ∀ i, (∀ x ∈ L, x.1 ≠ i) → Cg p (left w (fs.map fun f => (f, frV f L)) i) 0 := fun i hi => by
        by_cases h1 : i < n
        · exact atf i ((hf i).mpr ⟨h1, hi⟩)
        · show Cg p (w i - own w (fs.map fun f => (f, frV f L)) i) 0
          rw [sw i (by omega), ownz i (by omega)]
          exact ⟨0, by simp⟩
      -- made of units at the leads' places
      have asu : Eqv p (left w (fs.map fun f => (f, frV f L))) (cu (fun x => left w (fs.map fun f => (f, frV f L)) x.1) L) := fun i => by
        by_cases h1 : ∃ x ∈ L, x.1 = i
        · obtain ⟨x, hx, rfl⟩ := h1
          rw [cu_at nd hx]
          exact Cg.rfl'
        · have h2 : ∀ x ∈ L, x.1 ≠ i := fun x hx e => h1 ⟨x, hx, e⟩
          rw [cu_out h2]
          exact out i h2
      have lead0 : ∀ x ∈ L, Cg p (left w (fs.map fun f => (f, frV f L)) x.1) 0 := fun x hx => by
        have d1 : Cg p (dot x.2 (left w (fs.map fun f => (f, frV f L))) n) 0 := by
          have e : left w (fs.map fun f => (f, frV f L)) = fun i => w i + -1 * own w (fs.map fun f => (f, frV f L)) i := by
            funext i
            show w i - own w (fs.map fun f => (f, frV f L)) i = _
            omega
          rw [e, dot_comb]
          have o : Cg p (dot x.2 (own w (fs.map fun f => (f, frV f L))) n) 0 := dot_lotR (R := fun v => ∃ f ∈ fs, v = frV f L) (own_lot _ fun y hy => by
            obtain ⟨f, h1, rfl⟩ := List.mem_map.mp hy
            exact ⟨f, h1, rfl⟩) fun v ⟨f, h1, e⟩ => by
              rw [e]
              exact z f h1 x hx
          have a := (h x hx).add ((Cg.rfl' (a := -1)).mul o)
          rw [Int.mul_zero] at a
          exact a
        have d2 := (dot_eqv n (Eqv.refl (u := x.2)) asu).symm.trans d1
        rw [dot_cu pl] at d2
        -- only x itself counts
        have d4 : ∀ (M : List (Nat × Vc)) (a : Nat × Vc → Int), (∀ y ∈ M, y ∈ L) → (M.map (·.1)).Nodup → Cg p (combV (M.map fun y => (x.2 y.1, fun _ => a y)) 0) (if x.1 ∈ M.map (·.1) then cu a M x.1 else 0) := by
          intro M a
          induction M with
          | nil =>
            intro _ _
            exact Cg.rfl'
          | cons y M ih =>
            intro hM ndM'
            have nd' := List.nodup_cons.mp (by simpa using ndM' : (y.1 :: M.map (·.1)).Nodup)
            have ih' := ih (fun z hz => hM z (List.mem_cons_of_mem _ hz)) nd'.2
            show Cg p (x.2 y.1 * a y + combV (M.map fun y => (x.2 y.1, fun _ => a y)) 0) _
            by_cases e : x.1 = y.1
            · have n1 : x.1 ∉ M.map (·.1) := by rw [e]; exact nd'.1
              rw [if_neg n1] at ih'
              have m1 : x.1 ∈ (y :: M).map (·.1) := by rw [e]; simp
              rw [if_pos m1]
              show Cg p _ (a y * un y.1 x.1 + cu a M x.1)
              have c0 : cu a M x.1 = 0 := cu_out fun z hz e2 => n1 (List.mem_map.mpr ⟨z, hz, e2⟩)
              have u1 : un y.1 x.1 = 1 := if_pos e
              rw [c0, u1]
              have s1 := hL.self x hx
              rw [e] at s1
              have a1 := (s1.mul (Cg.rfl' (a := a y))).add ih'
              have e3 : (1 : Int) * a y + 0 = a y * 1 + 0 := by omega
              rw [e3] at a1
              exact a1
            · have o1 := hL.other x hx y (hM y (by simp)) e
              have u0 : un y.1 x.1 = 0 := if_neg e
              by_cases m : x.1 ∈ M.map (·.1)
              · rw [if_pos m] at ih'
                have m1 : x.1 ∈ (y :: M).map (·.1) := by
                  rw [List.map_cons]
                  exact List.mem_cons_of_mem _ m
                rw [if_pos m1]
                show Cg p _ (a y * un y.1 x.1 + cu a M x.1)
                rw [u0]
                have a1 := (o1.mul (Cg.rfl' (a := a y))).add ih'
                have e3 : (0 : Int) * a y + cu a M x.1 = a y * 0 + cu a M x.1 := by simp
                rw [e3] at a1
                exact a1
              · rw [if_neg m] at ih'
                have m1 : x.1 ∉ (y :: M).map (·.1) := by
                  rw [List.map_cons]
                  intro mm
                  rcases List.mem_cons.mp mm with q | q
                  · exact e q
                  · exact m q
                rw [if_neg m1]
                have a1 := (o1.mul (Cg.rfl' (a := a y))).add ih'
                have e3 : (0 : Int) * a y + 0 = 0 := by simp
                rw [e3] at a1
                exact a1
        have d5 := d4 L (fun y => left w (fs.map fun f => (f, frV f L)) y.1) (fun _ h => h) nd
        rw [if_pos (List.mem_map.mpr ⟨x, hx, rfl⟩), cu_at nd hx] at d5
        exact d5.symm.trans d2
      intro i
      by_cases h1 : ∃ x ∈ L, x.1 = i
      · obtain ⟨x, hx, rfl⟩ := h1
        exact lead0 x hx
      · exact out i fun x hx e => h1 ⟨x, hx, e⟩
    refine Lot.sub (fun v hv => ?_) ((lot_left M ndM).mpr key)
    obtain ⟨y, hy, rfl⟩ := hv
    obtain ⟨f, h1, rfl⟩ := List.mem_map.mp hy
    exact Lot.of ⟨f, h1, rfl⟩
/-- what makes 0 with all free rows is in the lot of the leads -/
theorem fr_back {p : Int} {n : Nat} {L : List (Nat × Vc)} {fs : List Nat} (hL : Leads p L) (nd : (L.map (·.1)).Nodup) (pl : ∀ x ∈ L, x.1 < n) (hf : ∀ f, f ∈ fs ↔ f < n ∧ ∀ x ∈ L, x.1 ≠ f) (sL : ∀ x ∈ L, Sup n x.2) {u : Vc} (su : Sup n u) (h : ∀ f ∈ fs, Cg p (dot u (frV f L) n) 0) : Lot p (rowsOf L) u := by
  refine (lot_left hL nd).mpr fun i => ?_
  by_cases h1 : ∃ x ∈ L, x.1 = i
  · obtain ⟨x, hx, rfl⟩ := h1
    exact left_at hL nd hx
  · have h2 : ∀ x ∈ L, x.1 ≠ i := fun x hx e => h1 ⟨x, hx, e⟩
    by_cases h3 : i < n
    · have a := h i ((hf i).mpr ⟨h3, h2⟩)
      rw [dot_fr h3 pl] at a
      exact a
    · have o : own u L i = 0 := by
        have all : ∀ M : List (Nat × Vc), (∀ x ∈ M, x ∈ L) → own u M i = 0 := by
          intro M
          induction M with
          | nil => intro _; rfl
          | cons y M ih =>
            intro hM
            show u y.1 * y.2 i + own u M i = 0
            rw [ih fun z hz => hM z (List.mem_cons_of_mem _ hz), sL y (hM y (by simp)) i (by omega)]
            simp
        exact all L fun _ h => h
      show Cg p (u i - own u L i) 0
      rw [su i (by omega), o]
      exact ⟨0, by simp⟩
/-! ### rows crossed -/
def crs (u : Vc) : Vc := fun i => if i % 2 = 0 then -u (i + 1) else u (i - 1)
theorem crs_comb {u v : Vc} {c : Int} (i : Nat) : crs (fun j => u j + c * v j) i = crs u i + c * crs v i := by
  unfold crs
  split
  · grind
  · rfl
theorem crs_eqv {p : Int} {u v : Vc} (h : Eqv p u v) : Eqv p (crs u) (crs v) := fun i => by
  unfold crs
  split
  · have a := (Cg.rfl' (p := p) (a := 0)).sub (h (i + 1))
    rw [Int.zero_sub, Int.zero_sub] at a
    exact a
  · exact h (i - 1)
theorem crs_crs (u : Vc) (i : Nat) : crs (crs u) i = -u i := by
  unfold crs
  by_cases h : i % 2 = 0
  · rw [if_pos h, if_neg (by omega)]
    rfl
  · rw [if_neg h, if_pos (by omega)]
    have e : i - 1 + 1 = i := by omega
    rw [e]
def crsR (R : Vc → Prop) : Vc → Prop := fun v => ∃ w, R w ∧ v = crs w
theorem crs_lot {p : Int} {R : Vc → Prop} {u : Vc} (h : Lot p R u) : Lot p (crsR R) (crs u) := by
  induction h with
  | zero => exact .eqv .zero fun i => ⟨0, by unfold crs; split <;> simp⟩
  | @add u v c _ r ih => exact .eqv (.add c ih ⟨v, r, rfl⟩) fun i => ⟨0, by rw [crs_comb]; omega⟩
  | eqv _ e ih => exact .eqv ih (crs_eqv e)
theorem crs_back {p : Int} {R : Vc → Prop} {u : Vc} (h : Lot p (crsR R) (crs u)) : Lot p R u := by
  have a : Lot p R (crs (crs u)) := Lot.sub (fun v hv => by
    obtain ⟨w, ⟨x, hx, rfl⟩, rfl⟩ := hv
    exact .eqv (Lot.comb (-1) .zero (Lot.of hx)) fun i => ⟨0, by rw [crs_crs]; omega⟩) (crs_lot h)
  exact .eqv (Lot.comb (-1) .zero a) fun i => ⟨0, by rw [crs_crs]; omega⟩
def crsP (p : Int) (r : List (Int × Int)) : List (Int × Int) := r.map fun u => (-u.2 % p, u.1)
theorem vec_crs {p : Int} : ∀ {r : List (Int × Int)}, Eqv p (vec (flatR (crsP p r))) (crs (vec (flatR r)))
  | [] => fun i => ⟨0, by simp [crsP, flatR, vec, crs]⟩
  | u :: r => fun i => by
    have e : crsP p (u :: r) = (-u.2 % p, u.1) :: crsP p r := rfl
    rw [e, flat_cons]
    show Cg p (vec (-u.2 % p :: u.1 :: flatR (crsP p r)) i) (crs (vec (flatR (u :: r))) i)
    rw [flat_cons]
    match i with
    | 0 =>
      show Cg p (-u.2 % p) (-u.2)
      exact Cg.mod _
    | 1 => exact Cg.rfl'
    | i + 2 =>
      rw [vec_succ, vec_succ]
      have ih := vec_crs (p := p) (r := r) i
      have e2 : crs (vec (u.1 :: u.2 :: flatR r)) (i + 2) = crs (vec (flatR r)) i := by
        unfold crs
        by_cases h : i % 2 = 0
        · rw [if_pos h, if_pos (by omega)]
          rw [vec_succ, vec_succ]
        · rw [if_neg h, if_neg (by omega)]
          have e3 : i + 2 - 1 = i - 1 + 1 + 1 := by omega
          rw [e3, vec_succ, vec_succ]
      rw [e2]
      exact ih
theorem crs_flat {u : Int × Int} {r : List (Int × Int)} : shf (shf (crs (vec (flatR (u :: r))))) = crs (vec (flatR r)) := by
  funext i
  show crs (vec (flatR (u :: r))) (i + 1 + 1) = _
  rw [flat_cons]
  unfold crs
  by_cases h : i % 2 = 0
  · rw [if_pos h, if_pos (by omega), vec_succ, vec_succ]
  · rw [if_neg h, if_neg (by omega)]
    have e3 : i + 1 + 1 - 1 = i - 1 + 1 + 1 := by omega
    rw [e3, vec_succ, vec_succ]
theorem shf_flat {u : Int × Int} {r : List (Int × Int)} : shf (shf (vec (flatR (u :: r)))) = vec (flatR r) := by
  funext i
  show vec (flatR (u :: r)) (i + 1 + 1) = _
  rw [flat_cons, vec_succ, vec_succ]
/-- the meet of two rows is the dot of the one crossed and the other -/
theorem meet_dot : ∀ {r s : List (Int × Int)}, r.length = s.length → (List.zipWith (fun u v => u.1 * v.2 - v.1 * u.2) r s).sum = dot (crs (vec (flatR r))) (vec (flatR s)) (2 * r.length)
  | [], [], _ => rfl
  | [], _ :: _, h => by simp at h
  | _ :: _, [], h => by simp at h
  | u :: r, v :: s, h => by
    have ih := meet_dot (r := r) (s := s) (by simpa using h)
    have e : 2 * (u :: r).length = 2 * r.length + 1 + 1 := by rw [List.length_cons]; omega
    rw [e]
    show (u.1 * v.2 - v.1 * u.2) + (List.zipWith (fun u v => u.1 * v.2 - v.1 * u.2) r s).sum = crs (vec (flatR (u :: r))) 0 * vec (flatR (v :: s)) 0 + (crs (vec (flatR (u :: r))) 1 * vec (flatR (v :: s)) 1 + dot (shf (shf (crs (vec (flatR (u :: r)))))) (shf (shf (vec (flatR (v :: s))))) (2 * r.length))
    rw [crs_flat, shf_flat, ih]
    have c0 : crs (vec (flatR (u :: r))) 0 = -u.2 := rfl
    have c1 : crs (vec (flatR (u :: r))) 1 = u.1 := rfl
    have v0 : vec (flatR (v :: s)) 0 = v.1 := rfl
    have v1 : vec (flatR (v :: s)) 1 = v.2 := rfl
    rw [c0, c1, v0, v1]
    grind
/-- the dot crossed on the one side is that crossed on the other, less -/
theorem dot_crs : ∀ (m : Nat) (u v : Vc), dot (crs u) v (2 * m) = -dot (crs v) u (2 * m)
  | 0, _, _ => rfl
  | m + 1, u, v => by
    have e : 2 * (m + 1) = 2 * m + 1 + 1 := by omega
    have sh : ∀ w : Vc, shf (shf (crs w)) = crs (shf (shf w)) := fun w => by
      funext i
      show crs w (i + 1 + 1) = crs (shf (shf w)) i
      unfold crs
      by_cases h : i % 2 = 0
      · rw [if_pos h, if_pos (by omega)]
        rfl
      · rw [if_neg h, if_neg (by omega)]
        show w (i + 1 + 1 - 1) = w (i - 1 + 1 + 1)
        congr 1
        omega
    have ih := dot_crs m (shf (shf u)) (shf (shf v))
    rw [e]
    show crs u 0 * v 0 + (crs u 1 * v 1 + dot (shf (shf (crs u))) (shf (shf v)) (2 * m)) = -(crs v 0 * u 0 + (crs v 1 * u 1 + dot (shf (shf (crs v))) (shf (shf u)) (2 * m)))
    rw [sh u, sh v, ih]
    have a0 : crs u 0 = -u 1 := rfl
    have a1 : crs u 1 = u 0 := rfl
    have b0 : crs v 0 = -v 1 := rfl
    have b1 : crs v 1 = v 0 := rfl
    rw [a0, a1, b0, b1]
    grind
/-! ### how many leads -/
theorem PL.len_eq {p : Int} {n : Nat} {fs gs : List (List Int)} {L M : List (Nat × List Int)} (p1 : 1 < p) (hL : PL p n fs L) (hM : PL p n gs M) (e : ∀ u, Lot p (spn fs) u ↔ Lot p (spn gs) u) : L.length = M.length := by
  have sub : ∀ x ∈ vecs L, Lot p (rowsOf (vecs M)) x.2 := fun x hx => (hM.lot _).mpr ((e _).mp ((hL.lot _).mp (Lot.of ⟨x, hx, rfl⟩)))
  have sup : ∀ x ∈ vecs M, Lot p (rowsOf (vecs L)) x.2 := fun x hx => (hL.lot _).mpr ((e _).mpr ((hM.lot _).mp (Lot.of ⟨x, hx, rfl⟩)))
  have pm : (L.map (·.1)).Perm (M.map (·.1)) := by
    refine (List.perm_ext_iff_of_nodup hL.nd hM.nd).mpr fun a => ?_
    rw [← vecs_places, ← vecs_places (L := M)]
    constructor
    · intro ha
      obtain ⟨x, hx, rfl⟩ := List.mem_map.mp ha
      obtain ⟨y, hy, ey⟩ := place_in p1 hL.leads hL.ahead hM.leads hM.ahead hM.ndv sub hx
      exact List.mem_map.mpr ⟨y, hy, ey⟩
    · intro ha
      obtain ⟨x, hx, rfl⟩ := List.mem_map.mp ha
      obtain ⟨y, hy, ey⟩ := place_in p1 hM.leads hM.ahead hL.leads hL.ahead hL.ndv sup hx
      exact List.mem_map.mpr ⟨y, hy, ey⟩
  have := pm.length_eq
  simpa using this
/-- each has a place at which those ahead of it have 0, and it not -/
inductive Fresh (p : Int) : List (List Int) → Prop
  | nil : Fresh p []
  | snoc {fs : List (List Int)} {f : List Int} (q : Nat) : Fresh p fs → (∀ g ∈ fs, Cg p (vec g q) 0) → ¬ Cg p (vec f q) 0 → Fresh p (fs ++ [f])
theorem Lot.at0 {p : Int} {R : Vc → Prop} {u : Vc} {q : Nat} (h : Lot p R u) (k : ∀ v, R v → Cg p (v q) 0) : Cg p (u q) 0 := by
  induction h with
  | zero => exact Cg.rfl'
  | add c _ r ih =>
    have a := ih.add ((Cg.rfl' (a := c)).mul (k _ r))
    rw [Int.mul_zero] at a
    exact a
  | eqv _ e ih => exact (e q).symm.trans ih
theorem Fresh.pl {p : Int} {n : Nat} (p1 : 1 < p) (inv : ∀ u, 0 < u → u < p → ∃ c, c * u % p = 1) {fs : List (List Int)} (h : Fresh p fs) (hf : ∀ f ∈ fs, f.length = n ∧ Rg p f) : ∃ L, PL p n fs L ∧ L.length = fs.length := by
  induction h with
  | nil => exact ⟨[], PL.nil, rfl⟩
  | @snoc fs f q _ z nz ih =>
    obtain ⟨L, pl, ll⟩ := ih fun g hg => hf g (List.mem_append.mpr (.inl hg))
    obtain ⟨fl, fr⟩ := hf f (by simp)
    have p0 : 0 < p := by omega
    have notz : ¬ ∀ x ∈ clearL p f L, x = 0 := fun hz => nz (((pl.zero p0 fl fr).mp hz).at0 fun v hv => by
      obtain ⟨g, hg, rfl⟩ := hv
      exact z g hg)
    -- the first place that isn't 0
    have first : ∀ us : List Int, (¬ ∀ x ∈ us, x = 0) → ∃ (j : Nat) (u : Int), us[j]? = some u ∧ u ≠ 0 ∧ ∀ i, i < j → us[i]? = some 0 := by
      intro us
      induction us with
      | nil => intro h; exact absurd (fun x hx => by cases hx) h
      | cons a us ih2 =>
        intro h
        by_cases ha : a = 0
        · have h' : ¬ ∀ x ∈ us, x = 0 := fun k => h fun x hx => by
            rcases List.mem_cons.mp hx with rfl | hx
            · exact ha
            · exact k x hx
          obtain ⟨j, u, e1, e2, e3⟩ := ih2 h'
          refine ⟨j + 1, u, e1, e2, fun i hi => ?_⟩
          cases i with
          | zero => rw [ha]; rfl
          | succ i => exact e3 i (by omega)
        · exact ⟨0, a, rfl, ha, fun i hi => absurd hi (Nat.not_lt_zero _)⟩
    obtain ⟨j, u, e1, e2, e3⟩ := first _ notz
    have ur := clear_rg p0 L fr u (List.mem_of_getElem? e1)
    obtain ⟨c, hc⟩ := inv u (by omega) ur.2
    refine ⟨_, pl.step p1 fl fr e1 e2 e3 hc, ?_⟩
    rw [List.length_append, List.length_append]
    have e : (moreL p j (scaled p c (clearL p f L)) L).length = L.length := by simp [moreL]
    rw [e, ll]
    rfl
/-! ### the mirror of rows -/
structure Mir (p : Int) (n : Nat) (rs : List (List (Int × Int))) (vs : List (List Int)) : Prop where
  ker : ∀ w, Sup (2 * n) w → (Lot p (spn vs) w ↔ ∀ r ∈ rs, Cg p (dot (crs (vec (flatR r))) w (2 * n)) 0)
  bi : ∀ w, Sup (2 * n) w → (∀ v ∈ vs, Cg p (dot (crs w) (vec v) (2 * n)) 0) → Lot p (spn (rs.map flatR)) w
  cnt : ∀ K L, PL p (2 * n) (rs.map flatR) K → PL p (2 * n) vs L → L.length + K.length = 2 * n
theorem lot_both {p : Int} {R S : Vc → Prop} (h1 : ∀ v, R v → ∃ w, S w ∧ Eqv p w v) (h2 : ∀ v, S v → ∃ w, R w ∧ Eqv p w v) (u : Vc) : Lot p R u ↔ Lot p S u :=
  Lot.iff (fun v hv => let ⟨w, hw, e⟩ := h1 v hv; .eqv (Lot.of hw) e) (fun v hv => let ⟨w, hw, e⟩ := h2 v hv; .eqv (Lot.of hw) e) u
def crsF (p : Int) (rs : List (List (Int × Int))) : List (List Int) := rs.map fun r => flatR (crsP p r)
theorem crs_spn {p : Int} {rs : List (List (Int × Int))} (u : Vc) : Lot p (spn (crsF p rs)) u ↔ Lot p (crsR (spn (rs.map flatR))) u := by
  refine lot_both (fun v hv => ?_) (fun v hv => ?_) u
  · obtain ⟨f, hf, rfl⟩ := hv
    obtain ⟨r, hr, rfl⟩ := List.mem_map.mp hf
    exact ⟨_, ⟨vec (flatR r), ⟨flatR r, List.mem_map.mpr ⟨r, hr, rfl⟩, rfl⟩, rfl⟩, vec_crs.symm⟩
  · obtain ⟨w, ⟨f, hf, rfl⟩, rfl⟩ := hv
    obtain ⟨r, hr, rfl⟩ := List.mem_map.mp hf
    exact ⟨_, ⟨flatR (crsP p r), List.mem_map.mpr ⟨r, hr, rfl⟩, rfl⟩, vec_crs⟩
/-- the other number of the same pair -/
def mate (q : Nat) : Nat := if q % 2 = 0 then q + 1 else q - 1
theorem crs_mate {p : Int} (u : Vc) (q : Nat) : (Cg p (crs u (mate q)) 0 ↔ Cg p (u q) 0) := by
  unfold crs mate
  by_cases h : q % 2 = 0
  · rw [if_pos h, if_neg (by omega)]
    exact Iff.rfl
  · rw [if_neg h, if_pos (by omega)]
    have e : q - 1 + 1 = q := by omega
    rw [e]
    constructor
    · intro k
      have a := (Cg.rfl' (p := p) (a := 0)).sub k
      have e2 : (0 : Int) - -u q = u q := by omega
      rw [e2] at a
      exact a
    · intro k
      have a := (Cg.rfl' (p := p) (a := 0)).sub k
      have e2 : (0 : Int) - u q = -u q := by omega
      rw [e2] at a
      exact a
theorem crs_count {p : Int} {n : Nat} {rs : List (List (Int × Int))} {K L : List (Nat × List Int)} (p1 : 1 < p) (inv : ∀ u, 0 < u → u < p → ∃ c, c * u % p = 1) (hK : PL p (2 * n) (rs.map flatR) K) (hL : PL p (2 * n) (crsF p rs) L) : L.length = K.length := by
  have p0 : 0 < p := by omega
  have gv : ∀ x ∈ K, Eqv p (vec (flatR (crsP p (rowL x.2)))) (crs (vec x.2)) := fun x hx => by
    have e := (rowL_flat n x.2 (hK.len x hx)).1
    have a := vec_crs (p := p) (r := rowL x.2)
    rw [e] at a
    exact a
  have fresh : ∀ i, i ≤ K.length → Fresh p ((K.take i).map fun x => flatR (crsP p (rowL x.2))) := by
    intro i
    induction i with
    | zero => intro _; exact Fresh.nil
    | succ i ih =>
      intro hi
      have hi' : i < K.length := by omega
      have e : (K.take (i + 1)).map (fun x => flatR (crsP p (rowL x.2))) = (K.take i).map (fun x => flatR (crsP p (rowL x.2))) ++ [flatR (crsP p (rowL (K[i]).2))] := by
        rw [← List.take_append_getElem hi', List.map_append]
        rfl
      rw [e]
      have mi := List.getElem_mem hi'
      refine .snoc (mate (K[i]).1) (ih (by omega)) (fun g hg => ?_) ?_
      · obtain ⟨y, hy, rfl⟩ := List.mem_map.mp hg
        have my := List.mem_of_mem_take hy
        refine (gv y my _).trans ((crs_mate _ _).mpr ?_)
        have ne : y.1 ≠ (K[i]).1 := by
          have nd := hK.nd
          rw [← List.take_append_drop i K, List.map_append] at nd
          have z := (List.nodup_append.mp nd).2.2 y.1 (List.mem_map.mpr ⟨y, hy, rfl⟩) (K[i]).1 (List.mem_map.mpr ⟨K[i], List.mem_of_getElem? (i := 0) (by rw [List.getElem?_drop]; simp [hi']), rfl⟩)
          exact z
        exact hK.leads.other (y.1, vec y.2) (mem_vecs.mpr ⟨y, my, rfl⟩) ((K[i]).1, vec (K[i]).2) (mem_vecs.mpr ⟨K[i], mi, rfl⟩) ne
      · intro z
        have a := (crs_mate _ _).mp ((gv _ mi _).symm.trans z)
        exact one_zero p1 ((hK.leads.self ((K[i]).1, vec (K[i]).2) (mem_vecs.mpr ⟨K[i], mi, rfl⟩)).symm.trans a)
  have fr := fresh K.length (Nat.le_refl _)
  rw [List.take_length] at fr
  obtain ⟨M, hM, ml⟩ := fr.pl (n := 2 * n) p1 inv fun f hf => by
    obtain ⟨x, hx, rfl⟩ := List.mem_map.mp hf
    obtain ⟨e1, e2⟩ := rowL_flat n x.2 (hK.len x hx)
    refine ⟨by rw [flat_len]; unfold crsP; rw [List.length_map, e2], fun u hu => ?_⟩
    obtain ⟨w, hw, hm⟩ := List.mem_flatMap.mp hu
    obtain ⟨v, hv, rfl⟩ := List.mem_map.mp hw
    have m1 : v.1 ∈ flatR (rowL x.2) := List.mem_flatMap.mpr ⟨v, hv, by simp⟩
    rw [e1] at m1
    have m : u = -v.2 % p ∨ u = v.1 := by simpa using hm
    rcases m with e | e
    · rw [e]
      exact ⟨Int.emod_nonneg _ (by omega), Int.emod_lt_of_pos _ p0⟩
    · rw [e]
      exact hK.rg x hx _ m1
  rw [List.length_map] at ml
  rw [← ml]
  refine hL.len_eq p1 hM fun u => ?_
  rw [crs_spn]
  constructor
  · refine Lot.sub fun v hv => ?_
    obtain ⟨w, hw, rfl⟩ := hv
    have a := crs_lot ((hK.lot w).mpr (Lot.of hw))
    refine Lot.sub (fun y hy => ?_) a
    obtain ⟨x, ⟨z, hz, rfl⟩, rfl⟩ := hy
    obtain ⟨k, hk, rfl⟩ := mem_vecs.mp hz
    exact .eqv (Lot.of ⟨_, List.mem_map.mpr ⟨k, hk, rfl⟩, rfl⟩) (gv k hk)
  · refine Lot.sub fun v hv => ?_
    obtain ⟨f, hf, rfl⟩ := hv
    obtain ⟨k, hk, rfl⟩ := List.mem_map.mp hf
    refine .eqv (crs_lot ((hK.lot (vec k.2)).mp (Lot.of ⟨(k.1, vec k.2), mem_vecs.mpr ⟨k, hk, rfl⟩, rfl⟩))) (gv k hk).symm
theorem sup_crs {n : Nat} {w : Vc} (h : Sup (2 * n) w) : Sup (2 * n) (crs w) := fun i hi => by
  unfold crs
  split
  · rw [h (i + 1) (by omega)]
    rfl
  · exact h (i - 1) (by omega)
theorem mir_of {p : Int} {n : Nat} {rs : List (List (Int × Int))} {vs : List (List Int)} {L : List (Nat × List Int)} {fs : List Nat} (p1 : 1 < p) (inv : ∀ u, 0 < u → u < p → ∃ c, c * u % p = 1) (hL : PL p (2 * n) (crsF p rs) L) (hf : ∀ f, f ∈ fs ↔ f < 2 * n ∧ f ∉ L.map (·.1)) (ndf : fs.Nodup)
    (vl : vs.length = fs.length) (hv : ∀ (i f : Nat) (v : List Int), fs[i]? = some f → vs[i]? = some v → Eqv p (vec v) (frV f (vecs L)) ∧ v.length = 2 * n ∧ Rg p v) : Mir p n rs vs := by
  have hf' : ∀ f, f ∈ fs ↔ f < 2 * n ∧ ∀ x ∈ vecs L, x.1 ≠ f := fun f => by
    rw [hf f]
    constructor
    · rintro ⟨a, b⟩
      refine ⟨a, fun x hx e => b ?_⟩
      obtain ⟨y, hy, rfl⟩ := mem_vecs.mp hx
      exact List.mem_map.mpr ⟨y, hy, e⟩
    · rintro ⟨a, b⟩
      refine ⟨a, fun m => ?_⟩
      obtain ⟨y, hy, e⟩ := List.mem_map.mp m
      exact b (y.1, vec y.2) (mem_vecs.mpr ⟨y, hy, rfl⟩) e
  have plc : ∀ x ∈ vecs L, x.1 < 2 * n := fun x hx => by
    obtain ⟨y, hy, rfl⟩ := mem_vecs.mp hx
    exact hL.plc y hy
  have supL : ∀ x ∈ vecs L, Sup (2 * n) x.2 := fun x hx => by
    obtain ⟨y, hy, rfl⟩ := mem_vecs.mp hx
    exact sup_vec (hL.len y hy)
  have same : ∀ u, Lot p (spn vs) u ↔ Lot p (fun v => ∃ f ∈ fs, v = frV f (vecs L)) u := fun u => by
    refine lot_both (fun v hv' => ?_) (fun v hv' => ?_) u
    · obtain ⟨f, hf1, rfl⟩ := hv'
      obtain ⟨i, hi, rfl⟩ := List.mem_iff_getElem.mp hf1
      have hi2 : i < fs.length := by omega
      exact ⟨_, ⟨fs[i], List.getElem_mem hi2, rfl⟩, ((hv i _ _ (List.getElem?_eq_getElem hi2) (List.getElem?_eq_getElem hi)).1).symm⟩
    · obtain ⟨f, hf1, rfl⟩ := hv'
      obtain ⟨i, hi, rfl⟩ := List.mem_iff_getElem.mp hf1
      have hi2 : i < vs.length := by omega
      exact ⟨_, ⟨vs[i], List.getElem_mem hi2, rfl⟩, (hv i _ _ (List.getElem?_eq_getElem hi) (List.getElem?_eq_getElem hi2)).1⟩
  refine ⟨fun w sw => ?_, fun w sw h => ?_, fun K M hK hM => ?_⟩
  · rw [same w, fr_ker hL.leads hL.ndv plc hf' ndf sw]
    constructor
    · intro h r hr
      refine dot_lotL (R := rowsOf (vecs L)) ((hL.lot _).mpr ((crs_spn _).mpr (Lot.of ⟨vec (flatR r), ⟨flatR r, List.mem_map.mpr ⟨r, hr, rfl⟩, rfl⟩, rfl⟩))) fun v hv' => ?_
      obtain ⟨x, hx, rfl⟩ := hv'
      exact h x hx
    · intro h x hx
      refine dot_lotL (R := crsR (spn (rs.map flatR))) ((crs_spn _).mp ((hL.lot _).mp (Lot.of ⟨x, hx, rfl⟩))) fun v hv' => ?_
      obtain ⟨w', ⟨f, hf1, rfl⟩, rfl⟩ := hv'
      obtain ⟨r, hr, rfl⟩ := List.mem_map.mp hf1
      exact h r hr
  · have a := fr_back (u := crs w) hL.leads hL.ndv plc hf' supL (sup_crs sw) fun f hf1 => by
      obtain ⟨i, hi, rfl⟩ := List.mem_iff_getElem.mp hf1
      have hi2 : i < vs.length := by omega
      exact (dot_eqv _ Eqv.refl (hv i _ _ (List.getElem?_eq_getElem hi) (List.getElem?_eq_getElem hi2)).1).symm.trans (h _ (List.getElem_mem hi2))
    exact crs_back ((crs_spn _).mp ((hL.lot _).mp a))
  · have lk := crs_count p1 inv hK hL
    have fresh : ∀ i, i ≤ vs.length → Fresh p (vs.take i) := by
      intro i
      induction i with
      | zero => intro _; exact Fresh.nil
      | succ i ih =>
        intro hi
        have hi' : i < vs.length := by omega
        have hi2 : i < fs.length := by omega
        rw [← List.take_append_getElem hi']
        have mi := (hf' _).mp (List.getElem_mem hi2)
        refine .snoc fs[i] (ih (by omega)) (fun g hg => ?_) ?_
        · obtain ⟨j, hj, rfl⟩ := List.mem_iff_getElem.mp hg
          rw [List.length_take] at hj
          have hj1 : j < vs.length := by omega
          have hj2 : j < fs.length := by omega
          rw [List.getElem_take]
          refine ((hv j _ _ (List.getElem?_eq_getElem hj2) (List.getElem?_eq_getElem hj1)).1 _).trans ?_
          rw [fr_other mi.2 ((List.pairwise_iff_getElem.mp ndf) j i hj2 hi2 (by omega))]
          exact Cg.rfl'
        · intro z
          have a := ((hv i _ _ (List.getElem?_eq_getElem hi2) (List.getElem?_eq_getElem hi')).1 fs[i]).symm.trans z
          rw [fr_self mi.2] at a
          exact one_zero p1 a
    have fr := fresh vs.length (Nat.le_refl _)
    rw [List.take_length] at fr
    obtain ⟨N, hN, nl⟩ := fr.pl (n := 2 * n) p1 inv fun v hv' => by
      obtain ⟨i, hi, rfl⟩ := List.mem_iff_getElem.mp hv'
      have hi2 : i < fs.length := by omega
      exact (hv i _ _ (List.getElem?_eq_getElem hi2) (List.getElem?_eq_getElem hi)).2
    have lm := hM.len_eq p1 hN fun u => Iff.rfl
    -- free places and places of leads are all places
    have pm : (fs ++ L.map (·.1)).Perm (List.range (2 * n)) := by
      refine (List.perm_ext_iff_of_nodup ?_ List.nodup_range).mpr fun a => ?_
      · exact List.nodup_append.mpr ⟨ndf, hL.nd, fun a ha b hb e => ((hf a).mp ha).2 (by rw [e]; exact hb)⟩
      · rw [List.mem_append, List.mem_range]
        constructor
        · rintro (h | h)
          · exact ((hf a).mp h).1
          · obtain ⟨y, hy, rfl⟩ := List.mem_map.mp h
            exact hL.plc y hy
        · intro h
          by_cases m : a ∈ L.map (·.1)
          · exact .inr m
          · exact .inl ((hf a).mpr ⟨h, m⟩)
    have le := pm.length_eq
    rw [List.length_append, List.length_map, List.length_range] at le
    omega
/-- the mirror of the mirror is the lot -/
theorem mir_mir {p : Int} {n : Nat} {rs ss : List (List (Int × Int))} {vs ws : List (List Int)} (h1 : Mir p n rs vs) (h2 : Mir p n ss ws) (e : ∀ u, Lot p (spn (ss.map flatR)) u ↔ Lot p (spn vs) u) (hr : ∀ r ∈ rs, r.length = n) (hs : ∀ r ∈ ss, r.length = n) (hw : ∀ w ∈ ws, w.length = 2 * n) (u : Vc) : Lot p (spn ws) u ↔ Lot p (spn (rs.map flatR)) u := by
  have key : ∀ w, Sup (2 * n) w → (Lot p (spn ws) w ↔ Lot p (spn (rs.map flatR)) w) := fun w sw => by
    rw [h2.ker w sw]
    have neg : ∀ a : Int, Cg p a 0 → Cg p (-a) 0 := fun a k => by
      have b := (Cg.rfl' (p := p) (a := 0)).sub k
      have e2 : (0 : Int) - a = -a := by omega
      rw [e2] at b
      exact b
    constructor
    · intro h
      refine h1.bi w sw fun v hv => ?_
      refine dot_lotR ((e (vec v)).mpr (Lot.of ⟨v, hv, rfl⟩)) fun x hx => ?_
      obtain ⟨f, hf, rfl⟩ := hx
      obtain ⟨r, hr', rfl⟩ := List.mem_map.mp hf
      rw [dot_crs]
      exact neg _ (h r hr')
    · intro h r hr'
      rw [dot_crs]
      refine neg _ ?_
      have sr : Sup (2 * n) (vec (flatR r)) := sup_vec (by rw [flat_len, hs r hr'])
      have k := (h1.ker (vec (flatR r)) sr).mp ((e _).mp (Lot.of ⟨flatR r, List.mem_map.mpr ⟨r, hr', rfl⟩, rfl⟩))
      refine dot_lotL (R := crsR (spn (rs.map flatR))) (crs_lot h) fun x hx => ?_
      obtain ⟨y, ⟨f, hf, rfl⟩, rfl⟩ := hx
      obtain ⟨r2, hr2, rfl⟩ := List.mem_map.mp hf
      exact k r2 hr2
  refine Lot.iff (fun v hv => ?_) (fun v hv => ?_) u
  · obtain ⟨f, hf, rfl⟩ := hv
    exact (key _ (sup_vec (hw f hf))).mp (Lot.of ⟨f, hf, rfl⟩)
  · obtain ⟨f, hf, rfl⟩ := hv
    obtain ⟨r, hr', rfl⟩ := List.mem_map.mp hf
    exact (key _ (sup_vec (by rw [flat_len, hr r hr']))).mpr (Lot.of ⟨_, hf, rfl⟩)
end Lin
set_option linter.all false
/-! zip of two or three things, each a list or a tuple, of one length -/
namespace Zm
open PySem PySem.Spec PyProof.Rows L2
inductive Kd where
  | l
  | t
def Sq (k : Kd) (K : PySem.W.Frag) (H : Hp) (a : Addr) (xs : List V) : Prop := match k with
  | .l => SqL K H a xs
  | .t => SqT K H a xs
def Itr (k : Kd) (h : Heap) (it a : Addr) (i : Nat) : Prop := match k with
  | .l => h.IsListIter it a i
  | .t => h.IsTupleIter it a i
def Sqh (k : Kd) (h : Heap) (a : Addr) (its : Array Value) : Prop := match k with
  | .l => h.IsList a its
  | .t => h.IsTuple a its
theorem drw {pr : Program} {w : World} {A : Around} (k : Kd) (hh : A.handled = none) {it a : Addr} (ne : a ≠ it) (its : Array Value) :
    Draws pr w A it [it, a] its.size (fun i v => its[i]? = some v) (fun i h => Itr k h it a i ∧ Sqh k h a its) := match k with
  | .l => Draws.list hh it a ne its
  | .t => Draws.tuple hh it a ne its
theorem bgn (k : Kd) (a : Addr) (its : Array Value) : ∃ o, Begins (.ref a) o (fun h => Sqh k h a its) ∧ ∀ (h : Heap) (it : Addr), h.get? it = some o → Itr k h it a 0 := match k with
  | .l => ⟨_, begins_list a its, fun h it e => ⟨_, e, rfl, rfl⟩⟩
  | .t => ⟨_, begins_tuple a its, fun h it e => ⟨_, e, rfl, rfl⟩⟩
section
variable {X : Cx} {pn : List (Addr × Obj)} {σ : L2.St} {H : Hp} {s : Shared} {a : Addr} {xs ys : List V} {k : Kd}
theorem at_ (I : Inv X pn σ H s) (q : Sq k X.K H a xs) : ∃ its : List Value, Vals xs its ∧ Sqh k s.heap a its.toArray ∧ a < s.heap.objs.size := by
  cases k with
  | l =>
    obtain ⟨its, r, p, _⟩ := I.list q
    exact ⟨its, r, p.isList, p.lt⟩
  | t =>
    obtain ⟨its, r, p, _⟩ := I.tuple q
    obtain ⟨o, ho, _⟩ := id p
    exact ⟨its, r, p, Heap.lt_size ho⟩
theorem inj (I : Inv X pn σ H s) (q : Sq k X.K H a xs) (q' : Sq k X.K H a ys) : xs = ys := by
  cases k with
  | l => exact I.list_inj q q'
  | t => exact I.tuple_inj q q'
theorem itr_keep {h h' : Heap} {it : Addr} {i : Nat} (x : Itr k h it a i) (kp : ∀ o, h.get? it = some o → h'.get? it = some o) : Itr k h' it a i := by
  cases k with
  | l => exact x.at kp
  | t => exact x.at kp
theorem itr_obj {h : Heap} {it : Addr} {i : Nat} (x : Itr k h it a i) : ∃ o, h.get? it = some o ∧ ∀ v, o.data ≠ .cell v := by
  cases k with
  | l =>
    obtain ⟨o, e, _, d⟩ := x
    exact ⟨o, e, fun v q => by rw [d] at q; cases q⟩
  | t =>
    obtain ⟨o, e, _, d⟩ := x
    exact ⟨o, e, fun v q => by rw [d] at q; cases q⟩
end
/-! ### two -/
def It2 (j k : Kd) (K : PySem.W.Frag) (a b : Addr) : It where
  go i H := ∃ (xs ys : List V) (x y : V), Sq j K H a xs ∧ Sq k K H b ys ∧ xs[i]? = some x ∧ ys[i]? = some y
  yld i H v H' := ∃ T x y, v = .ref T ∧ H T = none ∧ H' = upd H T (.tup [x, y]) ∧ (∀ xs, Sq j K H a xs → xs[i]? = some x) ∧ ∀ ys, Sq k K H b ys → ys[i]? = some y
  stop i H := ∃ xs ys : List V, Sq j K H a xs ∧ Sq k K H b ys ∧ xs.length = i ∧ ys.length = i
theorem mem5 {z a b c d x : Addr} (h : x ∈ [z, a, b, c, d]) : x = z ∨ x = a ∨ x = b ∨ x = c ∨ x = d := by simpa using h
theorem trn2 {P : Program} {w : World} {K : PySem.W.Frag} {j k : Kd} {es : List Expr} {kk : Nat} {tp : Pos} {a b z TI TO i1 i2 : Addr} (S : ZipSep2 z TI TO i1 i2 [i1, a] [i2, b]) (n1 : a ≠ i1) (n2 : b ≠ i2) :
    Turn P w K (.Tuple es kk tp) (It2 j k K a b) [z, TI, TO, i1, i2] z (fun i h => IsZip h z TI TO .none ∧ IsTupOf2 h TI (.ref i1) (.ref i2) ∧ (∃ x y, IsTupOf2 h TO x y) ∧ Itr j h i1 a i ∧ Itr k h i2 b i) where
  mem := by simp
  obj := fun i h st c hc => by
    obtain ⟨hz, hTI, ⟨x, y, hTO⟩, h1, h2⟩ := st
    rcases mem5 hc with rfl | rfl | rfl | rfl | rfl
    · exact ⟨_, hz, fun v e => nomatch e⟩
    · exact ⟨_, hTI, fun v e => nomatch e⟩
    · exact ⟨_, hTO, fun v e => nomatch e⟩
    · exact itr_obj h1
    · exact itr_obj h2
  keep := fun i h h' st kp => by
    obtain ⟨hz, hTI, ⟨x, y, hTO⟩, h1, h2⟩ := st
    exact ⟨kp z (by simp) _ hz, kp TI (by simp) _ hTI, ⟨x, y, kp TO (by simp) _ hTO⟩, itr_keep h1 fun o e => kp i1 (by simp) o e, itr_keep h2 fun o e => kp i2 (by simp) o e⟩
  item := by
    intro X eP ew eK calm i pn s σ H E I hf st gg
    subst eP ew eK
    obtain ⟨hz, hTI, hTO, h1, h2⟩ := st
    obtain ⟨xs, ys, x, y, qx, qy, hx, hy⟩ := gg
    obtain ⟨us, rv, p1, _⟩ := at_ I qx
    obtain ⟨vs, rv2, p2, _⟩ := at_ I qy
    have hh : X.A.in1.handled = none := I.ok.hd calm
    have l1 : i < us.toArray.size := by
      have := (List.getElem?_eq_some_iff.mp hx).1
      rw [List.size_toArray, ← rv.length]
      exact this
    have l2 : i < vs.toArray.size := by
      have := (List.getElem?_eq_some_iff.mp hy).1
      rw [List.size_toArray, ← rv2.length]
      exact this
    refine (GoesN.zip2 S (drw j hh n1 us.toArray) (drw k hh n2 vs.toArray)).goes i s (fun u s2 => ∃ x H', Inv X pn σ H' s2 ∧ RelV x u ∧ (It2 j k X.K a b).yld i H x H' ∧ _ ∧ ∀ c ∈ _, H' c = none) E (by omega) ⟨hz, hTI, hTO, ⟨h1, p1⟩, h2, p2⟩ fun v h' tk Y st' kp _ => ?_
    obtain ⟨T, u, u2, rfl, le, hu, hu2, hT⟩ := Y
    obtain ⟨hz', hTI', hTO', ⟨h1', _⟩, h2', _⟩ := st'
    obtain ⟨w1, e1, r1⟩ := rv.get hx
    obtain ⟨w2, e2, r2⟩ := rv2.get hy
    have c1 : w1 = u := by
      have z1 : us[i]? = some u := by simpa using hu
      rw [e1] at z1
      exact Option.some.inj z1
    have c2 : w2 = u2 := by
      have z2 : vs[i]? = some u2 := by simpa using hu2
      rw [e2] at z2
      exact Option.some.inj z2
    subst c1 c2
    have fresh : H T = none := I.hok.fresh le
    have new : ObjOk X.prog X.w (upd H T (.tup [x, y])) h' T (.tup [x, y]) := ⟨by show 2 ≤ sizeLine; decide, [w1, w2], .cons r1 (.cons r2 .nil), hT⟩
    have I1 := I.turnedNew (t' := tk) (ch := [z, TI, TO, i1, i2]) (fun c o n e => kp c o (fun m => n (by
      have m' : c = z ∨ c = TO ∨ c = i1 ∨ c = i2 := by simpa using m
      rcases m' with q | q | q | q <;> (rw [q]; simp))) e) hf le new
    refine ⟨.ref T, _, I1, rfl, ⟨T, x, y, rfl, fresh, rfl, fun l hl => by rw [inj I hl qx]; exact hx, fun l hl => by rw [inj I hl qy]; exact hy⟩, ⟨hz', hTI', hTO', h1', h2'⟩, fun c hc => ?_⟩
    have lt : c < s.heap.objs.size := by
      rcases mem5 hc with rfl | rfl | rfl | rfl | rfl
      · exact Heap.lt_size hz
      · exact Heap.lt_size hTI
      · obtain ⟨_, _, e⟩ := hTO
        exact Heap.lt_size e
      · obtain ⟨_, e, _⟩ := itr_obj h1
        exact Heap.lt_size e
      · obtain ⟨_, e, _⟩ := itr_obj h2
        exact Heap.lt_size e
    rw [upd_ne (Nat.ne_of_lt (Nat.lt_of_lt_of_le lt le))]
    exact (hf c hc).1
  done := by
    intro X eP ew eK calm i pn s σ H E I hf st gg
    subst eP ew eK
    obtain ⟨hz, hTI, hTO, h1, h2⟩ := st
    obtain ⟨xs, ys, qx, qy, hx, hy⟩ := gg
    obtain ⟨us, rv, p1, _⟩ := at_ I qx
    obtain ⟨vs, rv2, p2, _⟩ := at_ I qy
    have hh : X.A.in1.handled = none := I.ok.hd calm
    have e : i = min us.toArray.size vs.toArray.size := by
      have l1 := rv.length
      have l2 := rv2.length
      simp
      omega
    subst e
    exact (GoesN.zip2 (elts := es) (x1 := kk) (pos := tp) S (drw j hh n1 us.toArray) (drw k hh n2 vs.toArray)).stops s (fun s1 => Inv X pn σ H s1) E ⟨hz, hTI, hTO, ⟨h1, p1⟩, h2, p2⟩ fun h' tk kp _ => I.turnedL (t' := tk) (ch := [z, TI, TO, i1, i2]) (fun c o n e => kp c o (fun m => n (by
      have m' : c = z ∨ c = TO ∨ c = i1 ∨ c = i2 := by simpa using m
      rcases m' with q | q | q | q <;> (rw [q]; simp))) e) hf
  self := fun A i s Q E st h => wpAny_pyIter_zip st.1 h
def iZip2 (j k : Kd) (K : PySem.W.Frag) (ta : TA) : TI := fun σ H R => ta σ H fun vs H1 => ∃ a b xs ys, vs = [.ref a, .ref b] ∧ Sq j K H1 a xs ∧ Sq k K H1 b ys ∧ R (It2 j k K a b) H1
theorem pi_zip2 {X : Cx} {e e2 : Expr} {ta : TA} {p pos tp : Pos} {es : List Expr} {kk : Nat} (j k : Kd) (hg : Gl X "zip") (hm : X.mg "zip" = none) (ha : PA X [e, e2] ta)
    (hs : starEach [e, e2] X.env = (false, eval e X.env) :: starEach [e2] X.env := by rfl) (hpl : (backTo pos (starEach [e2] X.env)).any (·.1) = false := by rfl) :
    PI X (.Tuple es kk tp) (.Call (.Name "zip" p) [e, e2] [] pos) (iZip2 j k X.K ta) := by
  refine ⟨fun pn s σ H R I h => ?_⟩
  refine Call_ (ld_blt I hg hm PyProof.Rows.boot_zip (PyProof.Rows.callWith_type1 (thn (ha.run pos pn s σ H _ I h) fun us s1 ⟨vs, H1, I1, r1, q1⟩ => ?_) hs hpl))
  obtain ⟨a, b, xs, ys, ex, qx, qy, q⟩ := q1
  subst ex
  cases r1 with
  | cons r rr =>
   cases rr with
   | cons r' rr =>
    cases rr
    cases r
    cases r'
    obtain ⟨us, rv, p1, la⟩ := at_ I1 qx
    obtain ⟨vs, rv2, p2, lb⟩ := at_ I1 qy
    obtain ⟨o1, B1, f1⟩ := bgn j a us.toArray
    obtain ⟨o2, B2, f2⟩ := bgn k b vs.toArray
    refine zip_begins2 B1 B2 p1 p2 fun h' hz hTI hTO g1 g2 hsz kp => wpAny_pyIter_zip hz ?_
    have S := zip_sep2 (N := s1.heap.objs.size) (fp1 := [a]) (fp2 := [b]) (fun c hc => by rw [List.mem_singleton.mp hc]; exact la) (fun c hc => by rw [List.mem_singleton.mp hc]; exact lb)
    have ne1 : a ≠ s1.heap.objs.size := Nat.ne_of_lt la
    have ne2 : b ≠ s1.heap.objs.size + 1 := Nat.ne_of_lt (Nat.lt_succ_of_lt lb)
    refine ⟨_, _, _, _, H1, rfl, I1.kept (t' := s1.toks) kp, trn2 (j := j) (k := k) S ne1 ne2, ⟨hz, hTI, ⟨_, _, hTO⟩, f1 _ _ g1, f2 _ _ g2⟩, fun c hc => ?_, q⟩
    have le : s1.heap.objs.size ≤ c := by
      rcases mem5 hc with rfl | rfl | rfl | rfl | rfl
      · exact Nat.le_add_right _ _
      · exact Nat.le_add_right _ _
      · exact Nat.le_add_right _ _
      · exact Nat.le_refl _
      · exact Nat.le_add_right _ _
    exact I1.fpOk le (I1.hok.fresh le)
def iZipK (K : PySem.W.Frag) (ta : TA) : TI := fun σ H R => ta σ H fun vs H1 => ∃ j k a b xs ys, vs = [.ref a, .ref b] ∧ Sq j K H1 a xs ∧ Sq k K H1 b ys ∧ R (It2 j k K a b) H1
theorem pi_zipK {X : Cx} {e e2 : Expr} {ta : TA} {p pos tp : Pos} {es : List Expr} {kk : Nat} (hg : Gl X "zip") (hm : X.mg "zip" = none) (ha : PA X [e, e2] ta)
    (hs : starEach [e, e2] X.env = (false, eval e X.env) :: starEach [e2] X.env := by rfl) (hpl : (backTo pos (starEach [e2] X.env)).any (·.1) = false := by rfl) :
    PI X (.Tuple es kk tp) (.Call (.Name "zip" p) [e, e2] [] pos) (iZipK X.K ta) := by
  refine ⟨fun pn s σ H R I h => ?_⟩
  refine Call_ (ld_blt I hg hm PyProof.Rows.boot_zip (PyProof.Rows.callWith_type1 (thn (ha.run pos pn s σ H _ I h) fun us s1 ⟨vs, H1, I1, r1, q1⟩ => ?_) hs hpl))
  obtain ⟨j, k, a, b, xs, ys, ex, qx, qy, q⟩ := q1
  subst ex
  cases r1 with
  | cons r rr =>
   cases rr with
   | cons r' rr =>
    cases rr
    cases r
    cases r'
    obtain ⟨us, rv, p1, la⟩ := at_ I1 qx
    obtain ⟨vs, rv2, p2, lb⟩ := at_ I1 qy
    obtain ⟨o1, B1, f1⟩ := bgn j a us.toArray
    obtain ⟨o2, B2, f2⟩ := bgn k b vs.toArray
    refine zip_begins2 B1 B2 p1 p2 fun h' hz hTI hTO g1 g2 hsz kp => wpAny_pyIter_zip hz ?_
    have S := zip_sep2 (N := s1.heap.objs.size) (fp1 := [a]) (fp2 := [b]) (fun c hc => by rw [List.mem_singleton.mp hc]; exact la) (fun c hc => by rw [List.mem_singleton.mp hc]; exact lb)
    have ne1 : a ≠ s1.heap.objs.size := Nat.ne_of_lt la
    have ne2 : b ≠ s1.heap.objs.size + 1 := Nat.ne_of_lt (Nat.lt_succ_of_lt lb)
    refine ⟨_, _, _, _, H1, rfl, I1.kept (t' := s1.toks) kp, trn2 (j := j) (k := k) S ne1 ne2, ⟨hz, hTI, ⟨_, _, hTO⟩, f1 _ _ g1, f2 _ _ g2⟩, fun c hc => ?_, q⟩
    have le : s1.heap.objs.size ≤ c := by
      rcases mem5 hc with rfl | rfl | rfl | rfl | rfl
      · exact Nat.le_add_right _ _
      · exact Nat.le_add_right _ _
      · exact Nat.le_add_right _ _
      · exact Nat.le_refl _
      · exact Nat.le_add_right _ _
    exact I1.fpOk le (I1.hok.fresh le)
/-! ### walks -/
section
variable {K : PySem.W.Frag} {a b : Addr} {xs ys : List V} {j k : Kd}
theorem walk2 (hl : xs.length = ys.length) : Walk (It2 j k K a b) xs.length (fun H => Sq j K H a xs ∧ Sq k K H b ys) (YPair (fun i => xs[i]?) (fun i => ys[i]?)) := by
  refine ⟨fun i _ hi q => ?_, fun _ q => ⟨xs, ys, q.1, q.2, rfl, hl.symm⟩, fun i H v H' _ q y => ?_⟩
  · have h2 : i < ys.length := by omega
    exact ⟨xs, ys, xs[i], ys[i], q.1, q.2, by simp [hi], by simp [h2]⟩
  · obtain ⟨T, x, z, h1, h2, h3, h4, h5⟩ := y
    exact ⟨T, x, z, h1, h2, h3, h4 xs q.1, h5 ys q.2⟩
/-- a list or a tuple, item by item -/
def Itq (k : Kd) (K : PySem.W.Frag) (a : Addr) : It := match k with
  | .l => Itl K a
  | .t => Itt K a
theorem walkq : Walk (Itq k K a) xs.length (fun H => Sq k K H a xs) (YAt xs) := match k with
  | .l => walk_list
  | .t => walk_tup
end
def iKd (K : PySem.W.Frag) (te : TE) : TI := fun σ H R => te σ H fun x H1 => ∃ a k xs, x = .ref a ∧ Sq k K H1 a xs ∧ R (Itq k K a) H1
theorem pi_kd {X : Cx} {tg e : Expr} {te : TE} (he : PE X e te) : PI X tg e (iKd X.K te) := by
  refine ⟨fun pn s σ H R I h => ?_⟩
  refine thn (he.run pn s σ H _ I h) fun u s1 ⟨x, H1, I1, r, a, k, xs, ex, q, R1⟩ => ?_
  subst ex
  obtain rfl : u = Value.ref a := r
  obtain ⟨us, rv, p, la⟩ := at_ I1 q
  obtain ⟨o, B, f⟩ := bgn k a us.toArray
  refine B.iter _ _ _ _ s1 _ p ?_
  have up : ∀ c ob, s1.heap.get? c = some ob → (s1.heap.push o).get? c = some ob := fun c ob e => Heap.get?_push_of_some _ e
  have fp : ∀ c ∈ [s1.heap.objs.size], FpOk X pn H1 c := fun c hc => by
    rw [List.mem_singleton.mp hc]
    exact I1.fpOk (Nat.le_refl _) (I1.hok.fresh (Nat.le_refl _))
  have g := f _ _ (Heap.get?_push_size s1.heap B.free)
  cases k with
  | l => exact ⟨_, _, _, _, H1, rfl, I1.kept (t' := s1.toks) up, turn_list a _, g, fp, R1⟩
  | t => exact ⟨_, _, _, _, H1, rfl, I1.kept (t' := s1.toks) up, turn_tuple a _, g, fp, R1⟩
section
variable {J : It} {n : Nat} {G : Hp → Prop} {Y : Nat → Hp → V → Hp → Prop}
/-- a dict comprehension over a walk -/
theorem dc_it (w : Walk J n G Y) {g : TG} {tt : TT} {tk tv : TE} {vs : List Nat} {σ : L2.St} {H1 : Hp} {D : Addr} {Qd : Hp → Prop} (Pv : Nat → Hp → Prop) (h0 : Pv 0 (upd H1 D (.dK []))) (hG : ∀ i H, i ≤ n → Pv i H → G H)
    (hs : ∀ i x H H', i < n → Pv i H → Y i H x H' → g x (wipe σ vs) H' fun σ2 H2 => wipe σ2 vs = wipe σ vs ∧ tt σ2 H2 fun b H3 =>
      if b = true then tk σ2 H3 fun y H4 => tv σ2 H4 fun z H5 => ∃ kvs k, y = kV k ∧ H5 D = some (.dK kvs) ∧ kvs.length < sizeLine ∧ Pv (i + 1) (upd H5 D (.dK (putK kvs k z))) else Pv (i + 1) H3) (hd : ∀ H, Pv n H → Qd H) :
    ∃ W : Nat → Nat → Hp → Prop, (∃ m, W 0 m (upd H1 D (.dK []))) ∧ ∀ i m H, W i m H →
      (J.stop i H ∧ Qd H) ∨ (J.go i H ∧ ∃ Nx : Hp → Prop, (∀ H', Nx H' → ∃ m', m' < m ∧ W (i + 1) m' H') ∧ ∀ x H', J.yld i H x H' → g x (wipe σ vs) H' fun σ2 H2 => wipe σ2 vs = wipe σ vs ∧ tt σ2 H2 fun b H3 =>
        if b = true then tk σ2 H3 fun y H4 => tv σ2 H4 fun z H5 => ∃ kvs k, y = kV k ∧ H5 D = some (.dK kvs) ∧ kvs.length < sizeLine ∧ Nx (upd H5 D (.dK (putK kvs k z))) else Nx H3) := by
  refine ⟨fun i m H => m + i = n ∧ Pv i H, ⟨n, rfl, h0⟩, ?_⟩
  rintro i m H ⟨e, p⟩
  have q := hG i H (by omega) p
  cases m with
  | zero =>
    have e' : i = n := by omega
    subst e'
    exact .inl ⟨w.stops H q, hd H p⟩
  | succ m => exact .inr ⟨w.goes i H (by omega) q, Pv (i + 1), fun H' p' => ⟨m, by omega, by omega, p'⟩, fun x H' y => hs i x H H' (by omega) p (w.yields i H x H' (by omega) q y)⟩
end
end Zm
set_option linter.all false
/-! zip of three things, each a list or a tuple, of one length -/
namespace Z3
open PySem PySem.Spec PyProof.Rows L2 Zm
def It3 (j k l : Kd) (K : PySem.W.Frag) (a b c : Addr) : It where
  go i H := ∃ (xs ys zs : List V) (x y z : V), Sq j K H a xs ∧ Sq k K H b ys ∧ Sq l K H c zs ∧ xs[i]? = some x ∧ ys[i]? = some y ∧ zs[i]? = some z
  yld i H v H' := ∃ T x y z, v = .ref T ∧ H T = none ∧ H' = upd H T (.tup [x, y, z]) ∧ (∀ xs, Sq j K H a xs → xs[i]? = some x) ∧ (∀ ys, Sq k K H b ys → ys[i]? = some y) ∧ ∀ zs, Sq l K H c zs → zs[i]? = some z
  stop i H := ∃ xs ys zs : List V, Sq j K H a xs ∧ Sq k K H b ys ∧ Sq l K H c zs ∧ xs.length = i ∧ ys.length = i ∧ zs.length = i
theorem mem6 {z a b c d e x : Addr} (h : x ∈ [z, a, b, c, d, e]) : x = z ∨ x = a ∨ x = b ∨ x = c ∨ x = d ∨ x = e := by simpa using h
theorem old6 {z TI TO i1 i2 i3 q : Addr} (h : q ∈ [z, TO, i1, i2, i3]) : q ∈ [z, TI, TO, i1, i2, i3] := by
  simp at h ⊢
  rcases h with q | q | q | q | q <;> simp [q]
set_option maxHeartbeats 1000000 in
theorem trn3 {P : Program} {w : World} {K : PySem.W.Frag} {j k l : Kd} {es : List Expr} {kk : Nat} {tp : Pos} {a b c z TI TO i1 i2 i3 : Addr} (S : ZipSep3 z TI TO i1 i2 i3 [i1, a] [i2, b] [i3, c]) (n1 : a ≠ i1) (n2 : b ≠ i2) (n3 : c ≠ i3) :
    Turn P w K (.Tuple es kk tp) (It3 j k l K a b c) [z, TI, TO, i1, i2, i3] z (fun i h => IsZip h z TI TO .none ∧ IsTupOf3 h TI (.ref i1) (.ref i2) (.ref i3) ∧ (∃ x y u, IsTupOf3 h TO x y u) ∧ Itr j h i1 a i ∧ Itr k h i2 b i ∧ Itr l h i3 c i) where
  mem := by simp
  obj := fun i h st q hq => by
    obtain ⟨hz, hTI, ⟨x, y, u, hTO⟩, h1, h2, h3⟩ := st
    rcases mem6 hq with rfl | rfl | rfl | rfl | rfl | rfl
    · exact ⟨_, hz, fun v e => nomatch e⟩
    · exact ⟨_, hTI, fun v e => nomatch e⟩
    · exact ⟨_, hTO, fun v e => nomatch e⟩
    · exact itr_obj h1
    · exact itr_obj h2
    · exact itr_obj h3
  keep := fun i h h' st kp => by
    obtain ⟨hz, hTI, ⟨x, y, u, hTO⟩, h1, h2, h3⟩ := st
    exact ⟨kp z (by simp) _ hz, kp TI (by simp) _ hTI, ⟨x, y, u, kp TO (by simp) _ hTO⟩, itr_keep h1 fun o e => kp i1 (by simp) o e, itr_keep h2 fun o e => kp i2 (by simp) o e, itr_keep h3 fun o e => kp i3 (by simp) o e⟩
  item := by
    intro X eP ew eK calm i pn s σ H E I hf st gg
    subst eP ew eK
    obtain ⟨hz, hTI, hTO, h1, h2, h3⟩ := st
    obtain ⟨xs, ys, zs, x, y, u, qx, qy, qu, hx, hy, hu0⟩ := gg
    obtain ⟨us, rv, p1, _⟩ := at_ I qx
    obtain ⟨vs, rv2, p2, _⟩ := at_ I qy
    obtain ⟨ws, rv3, p3, _⟩ := at_ I qu
    have hh : X.A.in1.handled = none := I.ok.hd calm
    have l1 : i < us.toArray.size := by
      have := (List.getElem?_eq_some_iff.mp hx).1
      rw [List.size_toArray, ← rv.length]
      exact this
    have l2 : i < vs.toArray.size := by
      have := (List.getElem?_eq_some_iff.mp hy).1
      rw [List.size_toArray, ← rv2.length]
      exact this
    have l3 : i < ws.toArray.size := by
      have := (List.getElem?_eq_some_iff.mp hu0).1
      rw [List.size_toArray, ← rv3.length]
      exact this
    refine (GoesN.zip3 S (drw j hh n1 us.toArray) (drw k hh n2 vs.toArray) (drw l hh n3 ws.toArray)).goes i s (fun u s2 => ∃ x H', Inv X pn σ H' s2 ∧ RelV x u ∧ (It3 j k l X.K a b c).yld i H x H' ∧ _ ∧ ∀ q ∈ _, H' q = none) E (by omega) ⟨hz, hTI, hTO, ⟨h1, p1⟩, ⟨h2, p2⟩, h3, p3⟩ fun v h' tk Y st' kp _ => ?_
    obtain ⟨T, u1, u2, u3, rfl, le, hu, hu2, hu3, hT⟩ := Y
    obtain ⟨hz', hTI', hTO', ⟨h1', _⟩, ⟨h2', _⟩, h3', _⟩ := st'
    obtain ⟨w1, e1, r1⟩ := rv.get hx
    obtain ⟨w2, e2, r2⟩ := rv2.get hy
    obtain ⟨w3, e3, r3⟩ := rv3.get hu0
    have c1 : w1 = u1 := by
      have z1 : us[i]? = some u1 := by simpa using hu
      rw [e1] at z1
      exact Option.some.inj z1
    have c2 : w2 = u2 := by
      have z2 : vs[i]? = some u2 := by simpa using hu2
      rw [e2] at z2
      exact Option.some.inj z2
    have c3 : w3 = u3 := by
      have z3 : ws[i]? = some u3 := by simpa using hu3
      rw [e3] at z3
      exact Option.some.inj z3
    subst c1 c2 c3
    have fresh : H T = none := I.hok.fresh le
    have new : ObjOk X.prog X.w (upd H T (.tup [x, y, u])) h' T (.tup [x, y, u]) := ⟨by show 3 ≤ sizeLine; decide, [w1, w2, w3], .cons r1 (.cons r2 (.cons r3 .nil)), hT⟩
    have I1 := I.turnedNew (t' := tk) (ch := [z, TI, TO, i1, i2, i3]) (fun q o n e => kp q o (fun m => n (old6 m)) e) hf le new
    refine ⟨.ref T, _, I1, rfl, ⟨T, x, y, u, rfl, fresh, rfl, fun l hl => by rw [inj I hl qx]; exact hx, fun l hl => by rw [inj I hl qy]; exact hy, fun l hl => by rw [inj I hl qu]; exact hu0⟩, ⟨hz', hTI', hTO', h1', h2', h3'⟩, fun q hq => ?_⟩
    have lt : q < s.heap.objs.size := by
      rcases mem6 hq with rfl | rfl | rfl | rfl | rfl | rfl
      · exact Heap.lt_size hz
      · exact Heap.lt_size hTI
      · obtain ⟨_, _, _, e⟩ := hTO
        exact Heap.lt_size e
      · obtain ⟨_, e, _⟩ := itr_obj h1
        exact Heap.lt_size e
      · obtain ⟨_, e, _⟩ := itr_obj h2
        exact Heap.lt_size e
      · obtain ⟨_, e, _⟩ := itr_obj h3
        exact Heap.lt_size e
    rw [upd_ne (Nat.ne_of_lt (Nat.lt_of_lt_of_le lt le))]
    exact (hf q hq).1
  done := by
    intro X eP ew eK calm i pn s σ H E I hf st gg
    subst eP ew eK
    obtain ⟨hz, hTI, hTO, h1, h2, h3⟩ := st
    obtain ⟨xs, ys, zs, qx, qy, qu, hx, hy, hu⟩ := gg
    obtain ⟨us, rv, p1, _⟩ := at_ I qx
    obtain ⟨vs, rv2, p2, _⟩ := at_ I qy
    obtain ⟨ws, rv3, p3, _⟩ := at_ I qu
    have hh : X.A.in1.handled = none := I.ok.hd calm
    have e : i = min (min us.toArray.size vs.toArray.size) ws.toArray.size := by
      have l1 := rv.length
      have l2 := rv2.length
      have l3 := rv3.length
      simp
      omega
    subst e
    exact (GoesN.zip3 (elts := es) (x1 := kk) (pos := tp) S (drw j hh n1 us.toArray) (drw k hh n2 vs.toArray) (drw l hh n3 ws.toArray)).stops s (fun s1 => Inv X pn σ H s1) E ⟨hz, hTI, hTO, ⟨h1, p1⟩, ⟨h2, p2⟩, h3, p3⟩ fun h' tk kp _ => I.turnedL (t' := tk) (ch := [z, TI, TO, i1, i2, i3]) (fun q o n e => kp q o (fun m => n (old6 m)) e) hf
  self := fun A i s Q E st h => wpAny_pyIter_zip st.1 h
def iZip3 (K : PySem.W.Frag) (ta : TA) : TI := fun σ H R => ta σ H fun vs H1 => ∃ j k l a b c xs ys zs, vs = [.ref a, .ref b, .ref c] ∧ Sq j K H1 a xs ∧ Sq k K H1 b ys ∧ Sq l K H1 c zs ∧ R (It3 j k l K a b c) H1
theorem pi_zip3 {X : Cx} {e e2 e3 : Expr} {ta : TA} {p pos tp : Pos} {es : List Expr} {kk : Nat} (hg : Gl X "zip") (hm : X.mg "zip" = none) (ha : PA X [e, e2, e3] ta)
    (hs : starEach [e, e2, e3] X.env = (false, eval e X.env) :: starEach [e2, e3] X.env := by rfl) (hpl : (backTo pos (starEach [e2, e3] X.env)).any (·.1) = false := by rfl) :
    PI X (.Tuple es kk tp) (.Call (.Name "zip" p) [e, e2, e3] [] pos) (iZip3 X.K ta) := by
  refine ⟨fun pn s σ H R I h => ?_⟩
  refine Call_ (ld_blt I hg hm PyProof.Rows.boot_zip (PyProof.Rows.callWith_type1 (thn (ha.run pos pn s σ H _ I h) fun us s1 ⟨vs, H1, I1, r1, q1⟩ => ?_) hs hpl))
  obtain ⟨j, k, l, a, b, c, xs, ys, zs, ex, qx, qy, qu, q⟩ := q1
  subst ex
  cases r1 with
  | cons r rr =>
   cases rr with
   | cons r' rr =>
    cases rr with
    | cons r'' rr =>
    cases rr
    cases r
    cases r'
    cases r''
    obtain ⟨us, rv, p1, la⟩ := at_ I1 qx
    obtain ⟨vs, rv2, p2, lb⟩ := at_ I1 qy
    obtain ⟨ws, rv3, p3, lc⟩ := at_ I1 qu
    obtain ⟨o1, B1, f1⟩ := bgn j a us.toArray
    obtain ⟨o2, B2, f2⟩ := bgn k b vs.toArray
    obtain ⟨o3, B3, f3⟩ := bgn l c ws.toArray
    refine zip_begins3 B1 B2 B3 p1 p2 p3 fun h' hz hTI hTO g1 g2 g3 hsz kp => wpAny_pyIter_zip hz ?_
    have S := zip_sep3 (N := s1.heap.objs.size) (fp1 := [a]) (fp2 := [b]) (fp3 := [c]) (fun q hq => by rw [List.mem_singleton.mp hq]; exact la) (fun q hq => by rw [List.mem_singleton.mp hq]; exact lb) (fun q hq => by rw [List.mem_singleton.mp hq]; exact lc)
    have ne1 : a ≠ s1.heap.objs.size := Nat.ne_of_lt la
    have ne2 : b ≠ s1.heap.objs.size + 1 := Nat.ne_of_lt (Nat.lt_succ_of_lt lb)
    have ne3 : c ≠ s1.heap.objs.size + 2 := Nat.ne_of_lt (Nat.lt_succ_of_lt (Nat.lt_succ_of_lt lc))
    refine ⟨_, _, _, _, H1, rfl, I1.kept (t' := s1.toks) kp, trn3 (j := j) (k := k) (l := l) S ne1 ne2 ne3, ⟨hz, hTI, ⟨_, _, _, hTO⟩, f1 _ _ g1, f2 _ _ g2, f3 _ _ g3⟩, fun q hq => ?_, q⟩
    have le : s1.heap.objs.size ≤ q := by
      rcases mem6 hq with rfl | rfl | rfl | rfl | rfl | rfl
      · exact Nat.le_add_right _ _
      · exact Nat.le_add_right _ _
      · exact Nat.le_add_right _ _
      · exact Nat.le_refl _
      · exact Nat.le_add_right _ _
      · exact Nat.le_add_right _ _
    exact I1.fpOk le (I1.hok.fresh le)
def Y3 (xs ys zs : List V) : Nat → Hp → V → Hp → Prop := fun i H v H' => ∃ T x y z, v = .ref T ∧ H T = none ∧ H' = upd H T (.tup [x, y, z]) ∧ xs[i]? = some x ∧ ys[i]? = some y ∧ zs[i]? = some z
theorem walk3 {K : PySem.W.Frag} {a b c : Addr} {xs ys zs : List V} {j k l : Kd} (h1 : xs.length = ys.length) (h2 : xs.length = zs.length) : Walk (It3 j k l K a b c) xs.length (fun H => Sq j K H a xs ∧ Sq k K H b ys ∧ Sq l K H c zs) (Y3 xs ys zs) := by
  refine ⟨fun i _ hi q => ?_, fun _ q => ⟨xs, ys, zs, q.1, q.2.1, q.2.2, rfl, h1.symm, h2.symm⟩, fun i H v H' _ q y => ?_⟩
  · have g1 : i < ys.length := by omega
    have g2 : i < zs.length := by omega
    exact ⟨xs, ys, zs, xs[i], ys[i], zs[i], q.1, q.2.1, q.2.2, by simp [hi], by simp [g1], by simp [g2]⟩
  · obtain ⟨T, x, z, u, h1, h2, h3, h4, h5, h6⟩ := y
    exact ⟨T, x, z, u, h1, h2, h3, h4 xs q.1, h5 ys q.2.1, h6 zs q.2.2⟩
end Z3
set_option linter.all false
/-! list(zip(a, b)) of two lists; xs[::2], xs[1::2] of a list -/
namespace Lz
open PySem PySem.Spec PyProof.Rows L2
/-! ### every second item -/
def ev2 {α : Type} : List α → List α
  | [] => []
  | [a] => [a]
  | a :: _ :: r => a :: ev2 r
theorem ev2_get {α : Type} : ∀ (xs : List α) (k : Nat), (ev2 xs)[k]? = xs[2 * k]?
  | [], k => by simp [ev2]
  | [a], 0 => rfl
  | [a], k + 1 => by
    have e : 2 * (k + 1) = 2 * k + 1 + 1 := by omega
    simp [ev2, e]
  | a :: b :: r, 0 => rfl
  | a :: b :: r, k + 1 => by
    have e : 2 * (k + 1) = 2 * k + 1 + 1 := by omega
    show (ev2 r)[k]? = _
    rw [ev2_get r k, e]
    rfl
theorem ev2_len {α : Type} : ∀ xs : List α, (ev2 xs).length = (xs.length + 1) / 2
  | [] => by simp [ev2]
  | [_] => by simp [ev2]
  | _ :: _ :: r => by
    show (ev2 r).length + 1 = (r.length + 1 + 1 + 1) / 2
    rw [ev2_len r]
    omega
theorem ev2_map {α β : Type} (f : α → β) : ∀ xs : List α, ev2 (xs.map f) = (ev2 xs).map f
  | [] => rfl
  | [_] => rfl
  | a :: b :: r => by
    show f a :: ev2 (r.map f) = f a :: (ev2 r).map f
    rw [ev2_map f r]
theorem vals_ev2 : ∀ {xs : List V} {us : List Value}, Vals xs us → Vals (ev2 xs) (ev2 us)
  | _, _, .nil => .nil
  | _, _, .cons r .nil => .cons r .nil
  | _, _, .cons r (.cons _ rr) => .cons r (vals_ev2 rr)
theorem fm_get {α : Type} {f : Nat → Nat} {us ws : List α} {m : Nat} (hm : ws.length = m) (h : ∀ k, k < m → ws[k]? = us[f k]?) : ((List.range m).map f).filterMap (us[·]?) = ws := by
  induction m generalizing ws with
  | zero =>
    cases ws with
    | nil => rfl
    | cons _ _ => simp at hm
  | succ m ih =>
    have e : ws = ws.take m ++ [ws[m]'(by omega)] := by
      rw [List.take_append_getElem]
      exact (List.take_of_length_le (by omega)).symm
    have a := ih (ws := ws.take m) (by rw [List.length_take]; omega) fun k hk => by rw [List.getElem?_take, if_pos hk]; exact h k (by omega)
    have b := h m (by omega)
    rw [List.range_succ, List.map_append, List.filterMap_append, a]
    rw [List.getElem?_eq_getElem (by omega)] at b
    conv => rhs; rw [e]
    congr 1
    show [f m].filterMap (us[·]?) = _
    rw [List.filterMap_cons, ← b]
    rfl
theorem pick0 (us : List Value) : slicePick us.toArray none none (some 2) = (ev2 us).toArray := by
  unfold slicePick
  congr 1
  have e : sliceBounds none none (some 2) us.toArray.size = (0, (us.length : Int), 2) := by simp [sliceBounds]
  rw [e]
  show (sliceRange 0 (us.length : Int) 2).filterMap (us.toArray[·]?) = ev2 us
  have e2 : sliceRange 0 (us.length : Int) 2 = (List.range ((us.length + 1) / 2)).map fun k => 2 * k := by
    unfold sliceRange
    by_cases h : us.length = 0
    · rw [h]
      rfl
    · have z : ((us.length : Int) - 0 + 2 - 1) / 2 = (((us.length + 1) / 2 : Nat) : Int) := by omega
      have hp : (2 : Int) > 0 := by decide
      have hl : (0 : Int) < (us.length : Int) := by omega
      simp only [hp, hl, if_true, z, Int.toNat_natCast]
      apply List.map_congr_left
      intro k _
      omega
  rw [e2]
  have g : (fun i : Nat => us.toArray[i]?) = fun i : Nat => us[i]? := by
    funext i
    simp
  rw [g]
  exact fm_get (ev2_len us) fun k _ => ev2_get us k
theorem pick1 (us : List Value) : slicePick us.toArray (some 1) none (some 2) = (ev2 (us.drop 1)).toArray := by
  unfold slicePick
  congr 1
  by_cases h : us.length = 0
  · have e : us = [] := List.length_eq_zero_iff.mp h
    subst e
    rfl
  · have e : sliceBounds (some 1) none (some 2) us.toArray.size = (1, (us.length : Int), 2) := by
      simp [sliceBounds]
      omega
    rw [e]
    show (sliceRange 1 (us.length : Int) 2).filterMap (us.toArray[·]?) = _
    have e2 : sliceRange 1 (us.length : Int) 2 = (List.range (us.length / 2)).map fun k => 1 + 2 * k := by
      unfold sliceRange
      by_cases h1 : us.length = 1
      · rw [h1]
        rfl
      · have z : ((us.length : Int) - 1 + 2 - 1) / 2 = ((us.length / 2 : Nat) : Int) := by omega
        have hp : (2 : Int) > 0 := by decide
        have hl : (1 : Int) < (us.length : Int) := by omega
        simp only [hp, hl, if_true, z, Int.toNat_natCast]
        apply List.map_congr_left
        intro k _
        omega
    rw [e2]
    have g : (fun i : Nat => us.toArray[i]?) = fun i : Nat => us[i]? := by
      funext i
      simp
    rw [g]
    refine fm_get (by rw [ev2_len, List.length_drop]; omega) fun k _ => ?_
    rw [ev2_get, List.getElem?_drop]
section
variable {X : Cx}
def tEv (K : PySem.W.Frag) (n : Nat) (te : TE) : TE := fun σ H Q => te σ H fun x H1 => ∃ a xs, x = .ref a ∧ SqL K H1 a xs ∧ ∀ p, H1 p = none → Q (.ref p) (upd H1 p (.lst (ev2 (xs.drop n))))
theorem pe_ev0 {e : Expr} {te : TE} {k : Nat} {p1 p3 pos : Pos} (he : PE X e te) : PE X (.Subscript e (.Slice none none (some (.Constant (.int 2) k p1)) p3) pos) (tEv X.K 0 te) := by
  refine ⟨fun pn s σ H Q I h => Subscript_ (thn (he.run pn s σ H _ I h) fun v s1 ⟨x, H1, I1, r1, a, xs, ex, hx, q⟩ => ?_)⟩
  subst ex
  cases r1
  have two : PO X (some (.Constant (.int 2) k p1)) (tPart (tC (.int 2))) := po_some pe_int
  refine wpAny_Slice (thn (po_none.run pn s1 σ H1 (fun o G => o = none ∧ G = H1) I1 ⟨rfl, rfl⟩) fun v1 s2 ⟨o1, G1, I2, part1, e1, g1⟩ => ?_)
  subst e1 g1
  refine thn (po_none.run pn s2 σ G1 (fun o G => o = none ∧ G = G1) I2 ⟨rfl, rfl⟩) fun v2 s3 ⟨o2, G2, I3, part2, e2, g2⟩ => ?_
  subst e2 g2
  refine thn (two.run pn s3 σ G2 (fun o G => o = some 2 ∧ G = G2) I3 ⟨2, rfl, rfl, rfl⟩) fun v3 s4 ⟨o3, G3, I4, part3, e3, g3⟩ => ?_
  subst e3 g3
  have I5 : L2.Inv X pn σ G3 { s4 with heap := s4.heap.push { cls := .type "slice", data := .fields #[v1, v2, v3] } } := I4.kept (t' := s4.toks) fun b ob z => Heap.get?_push_of_some _ z
  obtain ⟨its, r, ht, hz⟩ := I5.list hx
  have hlen := r.length
  show wpAny (model X.prog X.w) X.A (subscriptTail e _ (.ref a) (.ref s4.heap.objs.size)) (EP X pn σ Q) X.xe _
  refine tail_any (ops := [.ref a, .ref s4.heap.objs.size]) ht.isList.typeIs slot_list_getitem.lookup ?_ (by with_unfolding_all rfl)
  refine wpAny_getItem_list_slice ht.isList (Heap.IsSliceOf.new ..) part1 part2 part3 (by simp) ?_ (by rw [List.size_toArray]; omega)
  rw [pick0]
  refine ⟨.ref _, _, I5.laid (t' := s4.toks) (o := .lst (ev2 xs)) (fun b ob z => Heap.get?_push_of_some _ z) (Nat.le_refl _) ?_, rfl, q _ (I5.hok.fresh (Nat.le_refl _))⟩
  exact ⟨by rw [ev2_len]; omega, ev2 its, 0, vals_ev2 r, Heap.get?_push_size _ rfl⟩
theorem pe_ev1 {e : Expr} {te : TE} {k j : Nat} {p1 p2 p3 pos : Pos} (he : PE X e te) : PE X (.Subscript e (.Slice (some (.Constant (.int 1) j p2)) none (some (.Constant (.int 2) k p1)) p3) pos) (tEv X.K 1 te) := by
  refine ⟨fun pn s σ H Q I h => Subscript_ (thn (he.run pn s σ H _ I h) fun v s1 ⟨x, H1, I1, r1, a, xs, ex, hx, q⟩ => ?_)⟩
  subst ex
  cases r1
  have one : PO X (some (.Constant (.int 1) j p2)) (tPart (tC (.int 1))) := po_some pe_int
  have two : PO X (some (.Constant (.int 2) k p1)) (tPart (tC (.int 2))) := po_some pe_int
  refine wpAny_Slice (thn (one.run pn s1 σ H1 (fun o G => o = some 1 ∧ G = H1) I1 ⟨1, rfl, rfl, rfl⟩) fun v1 s2 ⟨o1, G1, I2, part1, e1, g1⟩ => ?_)
  subst e1 g1
  refine thn (po_none.run pn s2 σ G1 (fun o G => o = none ∧ G = G1) I2 ⟨rfl, rfl⟩) fun v2 s3 ⟨o2, G2, I3, part2, e2, g2⟩ => ?_
  subst e2 g2
  refine thn (two.run pn s3 σ G2 (fun o G => o = some 2 ∧ G = G2) I3 ⟨2, rfl, rfl, rfl⟩) fun v3 s4 ⟨o3, G3, I4, part3, e3, g3⟩ => ?_
  subst e3 g3
  have I5 : L2.Inv X pn σ G3 { s4 with heap := s4.heap.push { cls := .type "slice", data := .fields #[v1, v2, v3] } } := I4.kept (t' := s4.toks) fun b ob z => Heap.get?_push_of_some _ z
  obtain ⟨its, r, ht, hz⟩ := I5.list hx
  have hlen := r.length
  show wpAny (model X.prog X.w) X.A (subscriptTail e _ (.ref a) (.ref s4.heap.objs.size)) (EP X pn σ Q) X.xe _
  refine tail_any (ops := [.ref a, .ref s4.heap.objs.size]) ht.isList.typeIs slot_list_getitem.lookup ?_ (by with_unfolding_all rfl)
  refine wpAny_getItem_list_slice ht.isList (Heap.IsSliceOf.new ..) part1 part2 part3 (by simp) ?_ (by rw [List.size_toArray]; omega)
  rw [pick1]
  refine ⟨.ref _, _, I5.laid (t' := s4.toks) (o := .lst (ev2 (xs.drop 1))) (fun b ob z => Heap.get?_push_of_some _ z) (Nat.le_refl _) ?_, rfl, q _ (I5.hok.fresh (Nat.le_refl _))⟩
  exact ⟨by rw [ev2_len, List.length_drop]; omega, ev2 (its.drop 1), 0, vals_ev2 (r.drop 1), Heap.get?_push_size _ rfl⟩
end
/-! ### list(zip(a, b)) -/
structure Zst (h : Heap) (z TI TO i1 i2 : Addr) (i : Nat) : Prop where
  zp : (i = 0 ∧ IsZip h z TI TO .none) ∨ ∃ T f o, IsZipHeld h z TI TO T f ∧ h.get? T = some o ∧ T ≠ z ∧ T ≠ TO ∧ T ≠ i1 ∧ T ≠ i2
  ti : IsPair h TI (.ref i1) (.ref i2)
  to : ∃ a b, IsPair h TO a b
theorem Zst.lz {h : Heap} {z TI TO i1 i2 : Addr} {i : Nat} (Z : Zst h z TI TO i1 i2 i) : z < h.objs.size := by
  rcases Z.zp with ⟨_, e⟩ | ⟨_, _, _, e, _⟩
  · exact Heap.lt_size e
  · exact Heap.lt_size e
theorem Zst.ty {s : Shared} {z TI TO i1 i2 : Addr} {i : Nat} (Z : Zst s.heap z TI TO i1 i2 i) : s.TypeIs (.ref z) "zip" := by
  rcases Z.zp with ⟨_, e⟩ | ⟨_, _, _, e, _⟩
  · exact ⟨_, e, rfl⟩
  · exact ⟨_, e, rfl⟩
theorem zip_no_len : typeLookup (.type "zip") "__len__" = pure none := by rw [typeLookup_type, builtinLookup_eq_fast]; kernel_rfl
theorem zip_no_hint : typeLookup (.type "zip") "__length_hint__" = pure none := by rw [typeLookup_type, builtinLookup_eq_fast]; kernel_rfl
section
variable {pr : Program} {w : World} {A : Around} {E : Value → Shared → Prop} {s : Shared} {z TI TO i1 i2 l1 l2 : Addr} {i : Nat} {xs ys : Array Value}
theorem next_ {x y : Value} {Q : Option Value → Shared → Prop} (D : ZipApart z TI TO i1 i2 l1 l2) (Z : Zst s.heap z TI TO i1 i2 i)
    (h1 : s.heap.IsListIter i1 l1 i) (h2 : s.heap.IsListIter i2 l2 i) (hl1 : s.heap.IsList l1 xs) (hl2 : s.heap.IsList l2 ys) (hx : xs[i]? = some x) (hy : ys[i]? = some y)
    (hQ : ∀ h', Zst h' z TI TO i1 i2 (i + 1) → h'.IsListIter i1 l1 (i + 1) → h'.IsListIter i2 l2 (i + 1) → IsPair h' s.heap.objs.size x y → (∀ c o, c ≠ z → c ≠ TO → c ≠ i1 → c ≠ i2 → s.heap.get? c = some o → h'.get? c = some o) → Q (some (.ref s.heap.objs.size)) { s with heap := h' }) :
    wpAny (model pr w) A (pyNext (.ref z)) Q E s := by
  have lz := Z.lz
  obtain ⟨zp, hTI, a, b, hTO⟩ := Z
  have lT : TO < s.heap.objs.size := Heap.lt_size hTO
  have g1 : i1 < s.heap.objs.size := by obtain ⟨_, e, _⟩ := h1; exact Heap.lt_size e
  have g2 : i2 < s.heap.objs.size := by obtain ⟨_, e, _⟩ := h2; exact Heap.lt_size e
  rcases zp with ⟨_, hz⟩ | ⟨T, f, o, hz, hT, t1, t2, t3, t4⟩
  · refine wpAny_pyNext_zip_item D hz hTI hTO h1 h2 hl1 hl2 hx hy fun h' b1 b2 b3 b4 b5 _ b7 => hQ h' ⟨.inr ⟨_, false, _, b1, b5, Nat.ne_of_gt lz, Nat.ne_of_gt lT, Nat.ne_of_gt g1, Nat.ne_of_gt g2⟩, b7 _ _ D.TIz D.TITO D.TIi1 D.TIi2 hTI, _, _, b2⟩ b3 b4 b5 b7
  · exact wpAny_pyNext_zip_item_held D hz hT hTI h1 h2 hl1 hl2 hx hy fun h' b1 b3 b4 b5 _ b7 => hQ h' ⟨.inr ⟨T, true, o, b1, b7 _ _ t1 t3 t4 hT, t1, t2, t3, t4⟩, b7 _ _ D.TIz D.TIi1 D.TIi2 hTI, _, _, b7 _ _ D.TOz D.TOi1 D.TOi2 hTO⟩ b3 b4 b5 fun c o' c1 _ c3 c4 e => b7 c o' c1 c3 c4 e
theorem last_ {Q : Option Value → Shared → Prop} (hh : A.handled = none) (D : ZipApart z TI TO i1 i2 l1 l2) (Z : Zst s.heap z TI TO i1 i2 i)
    (h1 : s.heap.IsListIter i1 l1 i) (h2 : s.heap.IsListIter i2 l2 i) (hl1 : s.heap.IsList l1 xs) (hl2 : s.heap.IsList l2 ys) (hx : xs[i]? = none)
    (hQ : ∀ h', (∀ c o, c ≠ z → c ≠ TO → c ≠ i1 → c ≠ i2 → s.heap.get? c = some o → h'.get? c = some o) → Q none { s with heap := h' }) :
    wpAny (model pr w) A (pyNext (.ref z)) Q E s := by
  obtain ⟨zp, hTI, a, b, hTO⟩ := Z
  rcases zp with ⟨_, hz⟩ | ⟨T, f, o, hz, hT, t1, t2, t3, t4⟩
  · exact wpAny_pyNext_zip_end hh D hz hTI hTO h1 h2 hl1 hl2 (.inl hx) hQ
  · exact wpAny_pyNext_zip_end_held hh D hz hT hTI h1 h2 hl1 hl2 (.inl hx) fun h' b7 => hQ h' fun c o' c1 _ c3 c4 e => b7 c o' c1 c3 c4 e
end
/-- what stands behind list(zip(a, b)): new pairs, a new list of them -/
structure Zipped (H0 H : Hp) (S : Addr) (ts : List Addr) (xs ys : List V) : Prop where
  same : Same H0 H
  new : H0 S = none
  lst : H S = some (.lst (ts.map V.ref))
  len : ts.length = xs.length
  get : ∀ (j : Nat) (t : Addr) (x y : V), ts[j]? = some t → xs[j]? = some x → ys[j]? = some y → H t = some (.tup [x, y])
section
variable {X : Cx} {A : Around} {pn : List (Addr × Obj)} {σ : L2.St} {R : Result → Shared → Prop} {z TI TO i1 i2 a b S : Addr} {xs ys : List V} {H0 : Hp}
theorem loop (hh : A.in1.handled = none) (D : ZipApart z TI TO i1 i2 a b) (res : Value) (hle : xs.length = ys.length) (hn : xs.length < sizeLine) (qa : SqL X.K H0 a xs) (qb : SqL X.K H0 b ys) (h0S : H0 S = none) (nS : S ≠ z ∧ S ≠ TI ∧ S ≠ TO ∧ S ≠ i1 ∧ S ≠ i2) :
    ∀ (k i : Nat) (s : Shared) (H : Hp) (ts : List Addr), xs.length - i = k → i ≤ xs.length → L2.Inv X pn σ H s → (∀ c ∈ [z, TI, TO, i1, i2], FpOk X pn H c) → Zst s.heap z TI TO i1 i2 i → s.heap.IsListIter i1 a i → s.heap.IsListIter i2 b i →
      Same H0 H → H S = some (.lst (ts.map V.ref)) → ts.length = i → (∀ (j : Nat) (t : Addr) (x y : V), ts[j]? = some t → xs[j]? = some x → ys[j]? = some y → H t = some (.tup [x, y])) →
      (∀ (s' : Shared) (H' : Hp) (ts' : List Addr), L2.Inv X pn σ H' s' → Zipped H0 H' S ts' xs ys → R (.ok (.ret res)) s') →
      codeAny (model X.prog X.w) A (.builtin "list.extend.loop" ⟨[.ref S, .ref z, res], []⟩) R s := by
  intro k
  induction k with
  | zero =>
    intro i s H ts hk hi I hf Z h1 h2 sm hS ht hg fin
    have e : i = xs.length := by omega
    obtain ⟨us, rv, p1, _⟩ := I.list (sm.seq qa)
    obtain ⟨vs, rv2, p2, _⟩ := I.list (sm.seq qb)
    refine codeAny_builtin F.entry_extend_loop ?_
    rw [Around.under_plainId F.plain_extend_loop _]
    show wpAny _ A.in1 (pyNext (.ref z) >>= _) _ _ s
    refine wpAny_bind (last_ hh D Z h1 h2 p1.isList p2.isList (by
      have := rv.length
      simp
      omega) fun h' kp => ?_)
    refine wpAny_pure (fin _ H ts (I.turnedL (t' := s.toks) (ch := [z, TI, TO, i1, i2]) (fun c o n q => kp c o (fun e => n (by rw [e]; simp)) (fun e => n (by rw [e]; simp)) (fun e => n (by rw [e]; simp)) (fun e => n (by rw [e]; simp)) q) hf) ⟨sm, h0S, hS, by omega, hg⟩)
  | succ k ih =>
    intro i s H ts hk hi I hf Z h1 h2 sm hS ht hg fin
    have hlt : i < xs.length := by omega
    obtain ⟨us, rv, p1, _⟩ := I.list (sm.seq qa)
    obtain ⟨vs, rv2, p2, _⟩ := I.list (sm.seq qb)
    have hx : xs[i]? = some xs[i] := List.getElem?_eq_getElem hlt
    have hy : ys[i]? = some (ys[i]'(by omega)) := List.getElem?_eq_getElem (by omega)
    obtain ⟨u, eu, ru⟩ := rv.get hx
    obtain ⟨v, ev, rv'⟩ := rv2.get hy
    refine codeAny_builtin F.entry_extend_loop ?_
    rw [Around.under_plainId F.plain_extend_loop _]
    show wpAny _ A.in1 (pyNext (.ref z) >>= _) _ _ s
    refine wpAny_bind (next_ D Z h1 h2 p1.isList p2.isList (x := u) (y := v) (by simpa using eu) (by simpa using ev) fun h' Z' h1' h2' hT kp => ?_)
    have new : ObjOk X.prog X.w (upd H s.heap.objs.size (.tup [xs[i], ys[i]'(by omega)])) h' s.heap.objs.size (.tup [xs[i], ys[i]'(by omega)]) := ⟨by show 2 ≤ sizeLine; decide, [u, v], .cons ru (.cons rv' .nil), ⟨_, hT, rfl, _, rfl⟩⟩
    have I1 := I.turnedNew (t' := s.toks) (ch := [z, TI, TO, i1, i2]) (fun c o n q => kp c o (fun e => n (by rw [e]; simp)) (fun e => n (by rw [e]; simp)) (fun e => n (by rw [e]; simp)) (fun e => n (by rw [e]; simp)) q) hf (Nat.le_refl _) new
    have hT0 : H s.heap.objs.size = none := I.hok.fresh (Nat.le_refl _)
    have neS : S ≠ s.heap.objs.size := ne_of_none hS hT0
    have hS1 : upd H s.heap.objs.size (.tup [xs[i], ys[i]'(by omega)]) S = some (.lst (ts.map V.ref)) := by
      rw [upd_ne neS]
      exact hS
    obtain ⟨_, its, n, ri, eS⟩ := I1.hok S _ hS1
    have il := ri.length
    rw [List.length_map] at il
    show wpAny _ A.in1 (updateSeq S (·.push (.ref s.heap.objs.size)) >>= _) _ _ _
    refine wpAny_bind (wpAny_updateSeq eS rfl (wpAny_pure ?_) (by rw [List.size_toArray]; omega) (by show (its.toArray.push _).size ≤ _; rw [Array.size_push, List.size_toArray]; omega))
    have oth : ∀ c o, c ≠ S → h'.get? c = some o → (h'.update S (Obj.mapSeq (·.push (.ref s.heap.objs.size)))).get? c = some o := fun c o n e => (Heap.get?_update_other _ _ (Ne.symm n)).trans e
    have eS2 := Heap.get?_update_self (Obj.mapSeq (·.push (Value.ref s.heap.objs.size))) eS rfl
    have I2 := I1.write (x := S) (e := S) (o := .lst ((ts ++ [s.heap.objs.size]).map V.ref)) (t' := s.toks) (by rw [hS1]; trivial) (.inl rfl) (fun c o n e => oth c o n e) ⟨_, eS2⟩ ⟨by rw [List.length_map, List.length_append, List.length_singleton]; omega, its ++ [.ref s.heap.objs.size], n + 1, by rw [List.map_append]; exact ri.append (.cons rfl .nil), by rw [eS2]; simp [Obj.mapSeq]⟩
    refine ⟨plainId_quiet F.plain_extend_loop _, ih (i + 1) _ _ (ts ++ [s.heap.objs.size]) (by omega) (by omega) I2 (fun c hc => ?_) ?_ ?_ ?_ ?_ upd_same (by rw [List.length_append, ht]; rfl) ?_ fin⟩
    · have f := hf c hc
      have lt : c ≠ s.heap.objs.size := by
        have q : c = z ∨ c = TI ∨ c = TO ∨ c = i1 ∨ c = i2 := by simpa using hc
        rcases q with q | q | q | q | q
        · rw [q]; exact Nat.ne_of_lt Z.lz
        · rw [q]; exact Nat.ne_of_lt (Heap.lt_size Z.ti)
        · rw [q]; obtain ⟨_, _, e⟩ := Z.to; exact Nat.ne_of_lt (Heap.lt_size e)
        · rw [q]; obtain ⟨_, e, _⟩ := h1; exact Nat.ne_of_lt (Heap.lt_size e)
        · rw [q]; obtain ⟨_, e, _⟩ := h2; exact Nat.ne_of_lt (Heap.lt_size e)
      have nc : c ≠ S := by
        have q : c = z ∨ c = TI ∨ c = TO ∨ c = i1 ∨ c = i2 := by simpa using hc
        rcases q with q | q | q | q | q
        · rw [q]; exact nS.1.symm
        · rw [q]; exact nS.2.1.symm
        · rw [q]; exact nS.2.2.1.symm
        · rw [q]; exact nS.2.2.2.1.symm
        · rw [q]; exact nS.2.2.2.2.symm
      refine ⟨?_, f.2⟩
      rw [upd_ne nc, upd_ne lt]
      exact f.1
    · obtain ⟨zp, t1, a1, b1, t2⟩ := Z'
      refine ⟨?_, oth _ _ nS.2.1.symm t1, a1, b1, oth _ _ nS.2.2.1.symm t2⟩
      rcases zp with ⟨q, _⟩ | ⟨T, f, o, q1, q2, q3⟩
      · omega
      · by_cases eT : T = S
        · exact .inr ⟨T, f, _, oth _ _ nS.1.symm q1, by rw [eT]; exact eS2, q3⟩
        · exact .inr ⟨T, f, o, oth _ _ nS.1.symm q1, oth _ _ eT q2, q3⟩
    · exact h1'.at fun o e => oth _ o nS.2.2.2.1.symm e
    · exact h2'.at fun o e => oth _ o nS.2.2.2.2.symm e
    · intro c o e
      rw [upd_ne (ne_of_none e h0S), upd_ne (ne_of_none (sm _ _ e) hT0)]
      exact sm _ _ e
    · intro j t x y hj hx' hy'
      by_cases hji : j < ts.length
      · rw [List.getElem?_append_left hji] at hj
        have q := hg j t x y hj hx' hy'
        rw [upd_ne (ne_of q hS (by intro z; cases z)), upd_ne (ne_of_none q hT0)]
        exact q
      · have ej : j = i := by
          have := (List.getElem?_eq_some_iff.mp hj).1
          rw [List.length_append, List.length_singleton] at this
          omega
        subst ej
        rw [List.getElem?_append_right (by omega), ht, Nat.sub_self] at hj
        cases hj
        rw [hx] at hx'
        rw [hy] at hy'
        cases hx'
        cases hy'
        rw [upd_ne neS.symm]
        exact upd_same
def tLZ (K : PySem.W.Frag) (ta : TA) : TE := fun σ H Q => ta σ H fun vs H1 => ∃ a b xs ys, vs = [.ref a, .ref b] ∧ SqL K H1 a xs ∧ SqL K H1 b ys ∧ xs.length = ys.length ∧ xs.length < sizeLine ∧ ∀ S ts H', Zipped H1 H' S ts xs ys → Q (.ref S) H'
theorem pe_LZ {e e2 : Expr} {ta : TA} {p p2 pos pos2 : Pos} (hc : X.calm = true) (hg : Gl X "list") (hm : X.mg "list" = none) (hg2 : Gl X "zip") (hm2 : X.mg "zip" = none) (ha : PA X [e, e2] ta)
    (hs : starEach [e, e2] X.env = (false, eval e X.env) :: starEach [e2] X.env := by rfl) (hpl : (backTo pos2 (starEach [e2] X.env)).any (·.1) = false := by rfl)
    (hs2 : starEach [.Call (.Name "zip" p2) [e, e2] [] pos2] X.env = (false, eval (.Call (.Name "zip" p2) [e, e2] [] pos2) X.env) :: starEach [] X.env := by rfl) :
    PE X (.Call (.Name "list" p) [.Call (.Name "zip" p2) [e, e2] [] pos2] [] pos) (tLZ X.K ta) := by
  refine ⟨fun pn s σ H Q I h => ?_⟩
  refine Call_ (ld_blt I hg hm boot_list (PyProof.Rows.callWith_type1 (args_cons (Call_ (ld_blt I hg2 hm2 boot_zip (PyProof.Rows.callWith_type1 (thn (ha.run pos2 pn s σ H _ I h) fun us s1 ⟨vs, H1, I1, r1, q1⟩ => ?_) hs hpl))) hs2) hs2 rfl))
  obtain ⟨a, b, xs, ys, ex, qx, qy, hle, hn, q⟩ := q1
  subst ex
  cases r1 with
  | cons r rr =>
   cases rr with
   | cons r' rr =>
    cases rr
    cases r
    cases r'
    obtain ⟨us, rv, p1, _⟩ := I1.list qx
    obtain ⟨vs, rv2, p2, _⟩ := I1.list qy
    have la := p1.lt
    have lb := p2.lt
    refine call_zip_2 p1.isList p2.isList fun h' hz hTI hTO h1 h2 hsz kp => args_nil ?_
    have I2 : L2.Inv X pn σ H1 { s1 with heap := h' } := I1.kept (t' := s1.toks) kp
    have D := PySem.W.ktu_apart s1.heap.objs.size a b la lb
    have hh : X.A.in1.in1.handled = none := I1.ok.hd hc
    have fp : ∀ c ∈ [s1.heap.objs.size + 4, s1.heap.objs.size + 2, s1.heap.objs.size + 3, s1.heap.objs.size, s1.heap.objs.size + 1], FpOk X pn H1 c := fun c hcm => by
      have le : s1.heap.objs.size ≤ c := by
        have e' : c = s1.heap.objs.size + 4 ∨ c = s1.heap.objs.size + 2 ∨ c = s1.heap.objs.size + 3 ∨ c = s1.heap.objs.size ∨ c = s1.heap.objs.size + 1 := by simpa using hcm
        rcases e' with q | q | q | q | q <;> (rw [q]; first | exact Nat.le_refl _ | exact Nat.le_add_right _ _)
      exact I1.fpOk le (I1.hok.fresh le)
    generalize s1.heap.objs.size + 4 = z at *
    generalize s1.heap.objs.size + 2 = TI at *
    generalize s1.heap.objs.size + 3 = TO at *
    generalize s1.heap.objs.size + 1 = i2 at *
    generalize s1.heap.objs.size = i1 at *
    have Z0 : Zst h' z TI TO i1 i2 0 := ⟨.inl ⟨rfl, hz⟩, hTI, _, _, hTO⟩
    have l1 : i1 < h'.objs.size := by obtain ⟨_, e, _⟩ := h1; exact Heap.lt_size e
    have l2 : i2 < h'.objs.size := by obtain ⟨_, e, _⟩ := h2; exact Heap.lt_size e
    refine callType_codes (Q₁ := fun obj t => obj = .ref h'.objs.size ∧ t = { s1 with heap := h'.push { cls := .type "list", data := .seq #[] } }) F.called_list (F.typeCall_list_1 _) F.entry_list_init (code_list_new _ ⟨rfl, rfl⟩) fun obj t ht => ?_
    obtain ⟨rfl, rfl⟩ := ht
    have eS : (h'.push { cls := .type "list", data := .seq #[] }).get? h'.objs.size = some { cls := .type "list", data := .seq #[] } := Heap.get?_push_size _ rfl
    have up : ∀ c o, h'.get? c = some o → (h'.push { cls := .type "list", data := .seq #[] }).get? c = some o := fun c o e => Heap.get?_push_of_some _ e
    refine ⟨⟨_, eS, rfl⟩, F.args_list_init_2 _ _, ?_⟩
    generalize h'.push { cls := .type "list", data := .seq #[] } = g at eS up ⊢
    have nS : h'.objs.size ≠ z ∧ h'.objs.size ≠ TI ∧ h'.objs.size ≠ TO ∧ h'.objs.size ≠ i1 ∧ h'.objs.size ≠ i2 := ⟨Nat.ne_of_gt Z0.lz, Nat.ne_of_gt (Heap.lt_size hTI), Nat.ne_of_gt (Heap.lt_size hTO), Nat.ne_of_gt l1, Nat.ne_of_gt l2⟩
    have h0S : H1 h'.objs.size = none := I2.hok.fresh (Nat.le_refl _)
    have lS : h'.objs.size ≤ h'.objs.size := Nat.le_refl _
    generalize eN : h'.objs.size = S at eS nS h0S lS ⊢
    show wpAny _ _ (do let old ← Builtin.List.listItems (.ref S); Builtin.List.listUpdate (.ref S) (fun _ => #[]); letGo old.toList.reverse; Builtin.List.listExtendWith (.ref S) (.ref z) .none) _ _ _
    unfold Builtin.List.listItems
    refine wpAny_bind (wpAny_bind (wpAny_seqItems eS rfl (wpAny_pure ?_)))
    show wpAny _ _ (updateSeq S (fun _ => #[]) >>= fun _ => letGo (#[] : Array Value).toList.reverse >>= fun _ => Builtin.List.listExtendWith (.ref S) (.ref z) .none) _ _ _
    refine wpAny_bind (wpAny_updateSeq eS rfl ?_)
    have eS2 := Heap.get?_update_self (Obj.mapSeq (fun _ => (#[] : Array Value))) eS rfl
    have o2 : ∀ c o, c ≠ S → g.get? c = some o → (g.update S (Obj.mapSeq (fun _ => (#[] : Array Value)))).get? c = some o := fun c o n e => (Heap.get?_update_other _ _ (Ne.symm n)).trans e
    refine wpAny_bind (wpAny_letGo ?_)
    generalize g.update S (Obj.mapSeq (fun _ => (#[] : Array Value))) = g2 at eS2 o2 ⊢
    have Z2 : Zst g2 z TI TO i1 i2 0 := ⟨.inl ⟨rfl, o2 _ _ nS.1.symm (up _ _ hz)⟩, o2 _ _ nS.2.1.symm (up _ _ hTI), _, _, o2 _ _ nS.2.2.1.symm (up _ _ hTO)⟩
    have ty2 : Shared.TypeIs { s1 with heap := g2 } (.ref z) "zip" := Zst.ty (s := { s1 with heap := g2 }) Z2
    unfold Builtin.List.listExtendWith
    refine wpAny_bind (wpAny_typeOf ty2 ?_)
    have c1 : Builtin.List.listSameRef (.ref S) (.ref z) = false := by simp [Builtin.List.listSameRef, nS.1]
    have c2 : (Value.type "zip" == Value.type "list") = false := by decide
    have c3 : (Value.type "zip" == Value.type "tuple") = false := by decide
    simp only [c1, c2, c3, Bool.or_false, Bool.false_eq_true, if_false]
    refine wpAny_bind (wpAny_pyIter_zip (o2 _ _ nS.1.symm (up _ _ hz)) ?_)
    refine wpAny_bind (wpAny_holding ?_)
    unfold Builtin.List.listLengthHint
    refine wpAny_bind (wpAny_specialOf ty2 zip_no_len ?_)
    show wpAny _ _ (specialOf (Value.ref z) (Str.ofString "__length_hint__") >>= _) _ _ _
    refine wpAny_bind (wpAny_specialOf ty2 zip_no_hint (wpAny_pure ?_))
    show wpAny _ _ (rule "list.extend.makes-room" >>= fun _ => Builtin.List.listTouch (.ref S) >>= fun _ => again (.builtin "list.extend.loop" ⟨[.ref S, .ref z, .none], []⟩)) _ _ _
    refine wpAny_bind (wpAny_rule (wpAny_bind ?_))
    show wpAny _ _ (updateSeq S (·.push .none) >>= fun _ => updateSeq S (·.pop)) _ _ _
    refine wpAny_bind (wpAny_updateSeq eS2 rfl ?_)
    have eS3 := Heap.get?_update_self (Obj.mapSeq (·.push Value.none)) eS2 rfl
    refine wpAny_updateSeq (hz := by seq_fits) eS3 rfl ?_
    have eS4 := Heap.get?_update_self (Obj.mapSeq (·.pop)) eS3 rfl
    have o4 : ∀ c o, c ≠ S → g2.get? c = some o → ((g2.update S (Obj.mapSeq (·.push Value.none))).update S (Obj.mapSeq (·.pop))).get? c = some o := fun c o n e => (Heap.get?_update_other _ _ (Ne.symm n)).trans ((Heap.get?_update_other _ _ (Ne.symm n)).trans e)
    refine wpAny_pure ⟨plainId_quiet F.plain_extend_loop _, ?_⟩
    generalize (g2.update S (Obj.mapSeq (·.push Value.none))).update S (Obj.mapSeq (·.pop)) = g4 at eS4 o4 ⊢
    have kp4 : ∀ c o, h'.get? c = some o → g4.get? c = some o := fun c o e => by
      have n : c ≠ S := by
        rw [← eN]
        exact Nat.ne_of_lt (Heap.lt_size e)
      exact o4 c o n (o2 c o n (up c o e))
    have I4 := I2.laid (t' := s1.toks) (o := .lst (([] : List Addr).map V.ref)) kp4 (Nat.le_of_eq eN) ⟨by simp, [], _, .nil, eS4⟩
    refine loop hh D .none hle hn qx qy h0S nS xs.length 0 _ _ [] (by omega) (Nat.zero_le _) I4 (fun c hcm => ?_) ⟨.inl ⟨rfl, kp4 _ _ hz⟩, kp4 _ _ hTI, _, _, kp4 _ _ hTO⟩ (h1.at fun o e => kp4 _ o e) (h2.at fun o e => kp4 _ o e) (fun c o e => by rw [upd_ne (ne_of_none e h0S)]; exact e) upd_same rfl (fun j t x y hj => by simp at hj) ?_
    · have f := fp c hcm
      refine ⟨?_, f.2⟩
      have n : c ≠ S := by
        have e' : c = z ∨ c = TI ∨ c = TO ∨ c = i1 ∨ c = i2 := by simpa using hcm
        rcases e' with q | q | q | q | q
        · rw [q]; exact nS.1.symm
        · rw [q]; exact nS.2.1.symm
        · rw [q]; exact nS.2.2.1.symm
        · rw [q]; exact nS.2.2.2.1.symm
        · rw [q]; exact nS.2.2.2.2.symm
      rw [upd_ne n]
      exact f.1
    · intro s' H' ts' I' Z'
      exact ⟨rfl, ⟨.ref S, H', I', rfl, q S ts' H' Z'⟩⟩
end
end Lz
set_option linter.all false
/-! set(xs) of a list of ints, as sorted() asks for it -/
namespace Si
open PySem PySem.Spec PyProof.Rows L2
abbrev nw (w : World) : Obj := { cls := .type "set", dict := none, data := .set #[] 0 (.fresh 0 0 (!w.params.followText "set-order")) }
section
variable {P : Program} {w : World} {A : Around} {E : Value → Shared → Prop} {s : Shared}
set_option maxHeartbeats 3200000 in
theorem set_list {l : Addr} {items : Array Value} (ns : List Int) {Q : Value → Shared → Prop} (hh : A.handled = none) (hl : s.heap.IsList l items) (hit : IntsAre items.toList ns) (hb : ns.length + 1 < scanBound)
    (h : ∀ (h' : Heap) (tk c : Nat), SetR w h' s.heap.objs.size (fun j => decide (j ∈ ns)) c → c ≤ ns.length → (∀ b o, s.heap.get? b = some o → h'.get? b = some o) → Q (.ref s.heap.objs.size) { s with heap := h', toks := tk }) :
    wpAny (model P w) A (call (.type "set") [.ref l]) Q E s := by
  have isz : items.size = ns.length := by
    have q := IntsAre.length hit
    rwa [Array.length_toList] at q
  obtain ⟨c, tl, hmro⟩ := F.called_set.mro
  have hmade := F.called_set.made
  have hsub := F.called_set.sub
  refine wpAny_call (codeAny_of_tree ?_)
  show wpAny _ _ (callAny (.type "set") _) _ _ _
  refine wpAny_pure ⟨Code.quiet_builtin _ (by decide +kernel), codeAny_builtin F.entry_type_call ?_⟩
  rw [Around.under_plain (weight_type_call_type "set" [.ref l] []) rfl]
  have h1 := F.called_set.notType
  have h2 := F.called_set.canCreate
  have hct := F.typeCall_set_1 (.ref l)
  repeat (any_goals (first | assumption | wp_step))
  refine codeAny_mono (code_set_led1 (.ref l) (E := E) (Q₁ := fun obj s₁ => obj = .ref s.heap.objs.size ∧ s₁ = { s with heap := s.heap.push (nw w) }) ⟨rfl, rfl⟩) fun r s₁ hr => ?_
  cases r with
  | error e => exact hr
  | ok fl =>
    cases fl with
    | ret obj =>
      obtain ⟨rfl, rfl⟩ := hr
      have hS : (s.heap.push (nw w)).get? s.heap.objs.size = some (nw w) := Heap.get?_push_size _ rfl
      have hT : Shared.TypeIs { s with heap := s.heap.push (nw w) } (.ref s.heap.objs.size) "set" := ⟨_, hS, rfl⟩
      have hli := F.called_set.init.lookup
      have hbi := F.called_set.init.bind (.ref s.heap.objs.size)
      repeat (any_goals (first | assumption | wp_step))
      refine codeAny_mono (codeAny_call_builtin (R := wants (fun r s₂ => r = .none ∧ ∃ h' tk c, s₂ = { s with heap := h', toks := tk } ∧ SetR w h' s.heap.objs.size (fun j => decide (j ∈ ns)) c ∧ c ≤ ns.length ∧
          (∀ b o, s.heap.get? b = some o → h'.get? b = some o)) E) F.called_set.init.plain F.entry_set_init (check_set_init_1 hT ?_)) fun r₂ s₂ hr₂ => ?_
      · obtain ⟨ol, hol, hcl, nl, hdl⟩ := hl
        obtain ⟨ocls, odict, odata, oslots⟩ := ol
        simp only at hcl hdl
        subst hcl; subst hdl
        have hol' : (s.heap.push (nw w)).get? l = some { cls := .type "list", dict := odict, data := .seq items nl, slots := oslots } := Heap.get?_push_of_some _ hol
        have hsls := F.sub_list_set
        have hslf := F.sub_list_frozenset
        have hne : (Value.type "list" == Value.type "dict") = false := by decide
        have hl1 : (s.heap.push (nw w)).IsList l items := ⟨_, hol', rfl, nl, rfl⟩
        unfold Builtin.«set.__init__» noKeywords Builtin.Frozenset.updateFrom
        generalize hPI : pyIter = PI
        wp_walk
        subst hPI
        refine wpAny_pyIter_list hl1 ?_
        refine wpAny_bind (wpAny_runValue ?_)
        have lS : l < s.heap.objs.size := Heap.lt_size hol
        have hh3 : A.in1.in1.in1.handled = none := by simp [hh]
        have neI : l ≠ (s.heap.push (nw w)).objs.size := by
          rw [Heap.size_push]
          exact Nat.ne_of_lt (Nat.lt_succ_of_lt lS)
        have notF : s.heap.objs.size ∉ [(s.heap.push (nw w)).objs.size, l] := by
          rw [Heap.size_push]
          simp only [List.mem_cons, List.mem_singleton, List.not_mem_nil, or_false, not_or]
          exact ⟨Nat.ne_of_lt (Nat.lt_succ_self _), Nat.ne_of_gt lS⟩
        have val : ∀ (i : Nat) (v : Value), items[i]? = some v → ∃ k t, ns[i]? = some k ∧ v = .int k t := fun i v hv => by
          have hi : i < ns.length := by rw [← isz]; exact (Array.getElem?_eq_some_iff.mp hv).1
          obtain ⟨t, e⟩ := IntsAre.int_at hit i v (by rw [Array.getElem?_toList]; exact hv)
          exact ⟨ns[i], t, List.getElem?_eq_getElem hi, by rw [e, List.getD_eq_getElem?_getD, List.getElem?_eq_getElem hi] <;> rfl⟩
        refine set_update_ints ((Walks.list hh3 _ l neI items).toS) s.heap.objs.size notF ns isz hb val (items.size - 0) 0 _ (by omega) (Nat.zero_le _) ⟨⟨_, Heap.get?_push_size _ rfl, rfl, rfl⟩, (hl1.push _)⟩ ⟨0, Nat.le_refl 0, setR_new_at (Heap.get?_push_of_some _ hS)⟩ ?_
        intro s' c' hm hc' hS'
        obtain ⟨h', g2, d', tk', os'⟩ := s'
        have eg : g2 = s.gens := hm.gens
        have ed : d' = s.drawn := hm.drawn
        have eo : os' = s.os := hm.os
        subst eg; subst ed; subst eo
        show wpAny _ _ _ _ _ _
        refine wpAny_pure ?_
        show wpAny _ _ (ret Value.none) _ _ _
        rw [isz] at hc'
        refine wpAny_pure ⟨rfl, h', tk', c', rfl, hS', hc', fun b o e => ?_⟩
        have b0 : b < s.heap.objs.size := Heap.lt_size e
        have b2 : b ≠ (s.heap.push (nw w)).objs.size := by
          rw [Heap.size_push]
          exact Nat.ne_of_lt (Nat.lt_succ_of_lt b0)
        exact hm.heap b o (by simp only [List.mem_cons, List.mem_singleton, List.not_mem_nil, or_false, not_or]; exact ⟨Nat.ne_of_lt b0, b2⟩) (Heap.get?_push_of_some _ (Heap.get?_push_of_some _ e))
      · cases r₂ with
        | error e => exact hr₂
        | ok fl₂ =>
          cases fl₂ with
          | ret r =>
            obtain ⟨rfl, h', tk, c', rfl, hS', hc', hk'⟩ := hr₂
            repeat (any_goals (first | assumption | wp_step))
            exact h _ _ _ hS' hc' hk'
          | _ => exact hr₂.elim
    | _ => exact hr.elim
end
/-- set(xs), a list of ints -/
def rSetL (K : PySem.W.Frag) (w : World) : List V → Hp → VK → Prop := fun xs H Q => ∃ (l : Addr) (ns : List Int), xs = [V.ref l] ∧ SqL K H l (ns.map V.int) ∧ ns.length ≤ 1000 ∧
  ∀ a c, H a = none → c ≤ ns.length → Q (.ref a) (upd H a (SetO w a (fun j => decide (j ∈ ns)) c))
theorem cr_setL {X : Cx} (hc : X.calm = true) : CallR X (.type "set") (rSetL X.K X.w) := by
  intro pins s σ H xs us Q I r h
  obtain ⟨l, ns, rfl, hl, hf, q⟩ := h
  rw [Vals.ref1 r]
  obtain ⟨its, rv, pl, hz⟩ := I.list hl
  refine set_list (P := X.prog) (w := X.w) ns (I.ok.hd hc) pl.isList (by simpa using rv.ints) (by unfold scanBound; omega) fun h' tk c R g k => ?_
  exact ⟨.ref s.heap.objs.size, upd H s.heap.objs.size (SetO X.w s.heap.objs.size (fun j => decide (j ∈ ns)) c), I.laid (t' := tk) k (Nat.le_refl _) (setO_new R), rfl, q _ _ (I.hok.fresh (Nat.le_refl _)) g⟩
end Si
set_option linter.all false
/-! zip(*xs): any number of lists, or of tuples, of one length -/
namespace Zn
open PySem PySem.Spec PyProof.Rows L2 Zm
section
variable {pr : Program} {w : World} {A : Around} {E : Value → Shared → Prop} {s : Shared}
theorem nx_item (k : Kd) {it a : Addr} {i : Nat} {items : Array Value} {x : Value} {Q : Value → Shared → Prop} (hit : Itr k s.heap it a i) (hl : Sqh k s.heap a items) (hx : items[i]? = some x)
    (hQ : ∀ h', Itr k h' it a (i + 1) → Heap.SameBut it s.heap h' → Q x { s with heap := h' }) : wpAny (model pr w) A (Builtin.SmallTypes.nextOf (.ref it)) Q E s := match k, hit, hl, hQ with
  | .l, hit, hl, hQ => wpAny_nextOf_list_item hit hl hx hQ
  | .t, hit, hl, hQ => wpAny_nextOf_tuple_item hit hl hx hQ
theorem nx_end (k : Kd) {it a : Addr} {i : Nat} {items : Array Value} {Q : Value → Shared → Prop} (hh : A.handled = none) (hit : Itr k s.heap it a i) (hl : Sqh k s.heap a items) (hx : items[i]? = none)
    (hE : ∀ h' e, Heap.ExtBut it s.heap h' → (∃ o, h'.get? e = some o ∧ o.cls = .type "StopIteration") → E (.ref e) { s with heap := h' }) : wpAny (model pr w) A (Builtin.SmallTypes.nextOf (.ref it)) Q E s := match k, hit, hl with
  | .l, hit, hl => wpAny_nextOf_list_end hh hit hl hx hE
  | .t, hit, hl => wpAny_nextOf_tuple_end hh hit hl hx hE
theorem steps {α σ : Type} {B : α → σ → Sem (ForInStep σ)} (J : Nat → σ → Shared → Prop) : ∀ (is : List α) (o : Nat) (st : σ) (s : Shared), J o st s →
    (∀ j it st s, is[j]? = some it → J (o + j) st s → wpAny (model pr w) A (B it st) (fun r s' => ∃ st', r = .yield st' ∧ J (o + j + 1) st' s') E s) →
    wpAny (model pr w) A (forIn is st B) (fun st s' => J (o + is.length) st s') E s
  | [], o, st, s, h0, _ => by
    rw [List.forIn_nil]
    exact wpAny_pure h0
  | it :: is, o, st, s, h0, hs => by
    rw [List.forIn_cons]
    refine wpAny_bind (wpAny_mono (hs 0 it st s rfl h0) (fun r s' h => ?_) fun _ _ x => x)
    obtain ⟨st', rfl, h1⟩ := h
    have z := steps J is (o + 1) st' s' h1 fun j it' st s e h => by
      have e1 : o + 1 + j = o + (j + 1) := by omega
      rw [e1] at h ⊢
      exact hs (j + 1) it' st s e h
    have e2 : o + (it :: is).length = o + 1 + is.length := by rw [List.length_cons]; omega
    rw [e2]
    exact z
/-- a zip of iterators -/
abbrev IsTup (h : Heap) (T : Addr) (vs : List Value) : Prop := h.get? T = some { cls := .type "tuple", data := .seq vs.toArray }
structure Apart (z TI TO : Addr) (is as : List Addr) : Prop where
  nd : is.Nodup
  zi : z ∉ is
  TIi : TI ∉ is
  TOi : TO ∉ is
  TIz : TI ≠ z
  TOz : TO ≠ z
  TITO : TI ≠ TO
  ai : ∀ a ∈ as, a ∉ is
  az : ∀ a ∈ as, a ≠ z
  aTO : ∀ a ∈ as, a ≠ TO
def Its (k : Kd) (h : Heap) (is as : List Addr) (lo hi i : Nat) : Prop := ∀ (j : Nat) (it a : Addr), lo ≤ j → j < hi → is[j]? = some it → as[j]? = some a → Itr k h it a i
def Sqs (k : Kd) (h : Heap) (as : List Addr) (xss : List (List Value)) : Prop := ∀ (j : Nat) (a : Addr) (xs : List Value), as[j]? = some a → xss[j]? = some xs → Sqh k h a xs.toArray
theorem sqh_keep {k : Kd} {h h' : Heap} {a : Addr} {its : Array Value} (x : Sqh k h a its) (kp : ∀ o, h.get? a = some o → h'.get? a = some o) : Sqh k h' a its := by
  cases k with
  | l => exact x.at kp
  | t => exact x.at kp
theorem nd_inj {as : List Addr} (h : as.Nodup) {i j : Nat} {a : Addr} (h1 : as[i]? = some a) (h2 : as[j]? = some a) : i = j := by
  obtain ⟨hi, e1⟩ := List.getElem?_eq_some_iff.mp h1
  obtain ⟨hj, e2⟩ := List.getElem?_eq_some_iff.mp h2
  have pw := List.pairwise_iff_getElem.mp h
  rcases Nat.lt_trichotomy i j with l | l | l
  · exact absurd (e1.trans e2.symm) (pw i j hi hj l)
  · exact l
  · exact absurd (e2.trans e1.symm) (pw j i hj hi l)
/-- the i-th items of all -/
structure Col (xss : List (List Value)) (i : Nat) (row : List Value) : Prop where
  len : row.length = xss.length
  get : ∀ {j : Nat} {xs : List Value}, xss[j]? = some xs → ∃ v, xs[i]? = some v ∧ row[j]? = some v
theorem take_one {α : Type} {l : List α} {j : Nat} {v : α} (h : l[j]? = some v) : l.take (j + 1) = l.take j ++ [v] := by
  rw [List.take_add_one, h]
  rfl
theorem not_empty {is : List Addr} (h : is ≠ []) : (is.map Value.ref).toArray.isEmpty = false := by
  cases is with
  | nil => exact absurd rfl h
  | cons a b => rfl
theorem next_held {z TI TO T : Addr} {f : Bool} {oT : Obj} {i : Nat} {k : Kd} {is as : List Addr} {xss : List (List Value)} {row : List Value} {Q : Value → Shared → Prop} (D : Apart z TI TO is as)
    (hz : IsZipHeld s.heap z TI TO T f) (hT : s.heap.get? T = some oT) (hTI : IsTup s.heap TI (is.map Value.ref)) (hit : Its k s.heap is as 0 is.length i) (hsq : Sqs k s.heap as xss) (la : as.length = is.length) (lx : xss.length = is.length) (col : Col xss i row) (hne : is ≠ []) (hsz : row.length ≤ sizeLine)
    (hQ : ∀ h', IsZipHeld h' z TI TO T true → Its k h' is as 0 is.length (i + 1) → IsTup h' s.heap.objs.size row → h'.objs.size = s.heap.objs.size + 1 → (∀ c o, c ≠ z → c ∉ is → s.heap.get? c = some o → h'.get? c = some o) → Q (.ref s.heap.objs.size) { s with heap := h' }) :
    wpAny (model pr w) A (Builtin.«zip.__next__» ⟨[.ref z], []⟩) (fun fin s' => ∃ v, fin = .done (.ret v) ∧ Q v s') E s := by
  show wpAny _ _ (field (.ref z) 2 >>= _) _ _ _
  refine wpAny_bind (wpAny_field hz rfl (x := .bool false) rfl ?_)
  show wpAny _ _ (field (.ref z) 3 >>= _) _ _ _
  refine wpAny_bind (wpAny_field hz rfl (x := .ref TI) rfl ?_)
  refine wpAny_bind (wpAny_seqItems hTI rfl ?_)
  dsimp only
  rw [not_empty hne]
  simp only [Bool.false_eq_true, if_false]
  refine wpAny_bind (wpAny_tupleHeld_zip hz hT fun h₁ hz₁ hs₁ => ?_)
  simp only [Bool.false_eq_true, if_false]
  refine wpAny_bind ?_
  rw [← Array.forIn_toList]
  have rl := col.len
  refine wpAny_mono (steps (fun j (st : Option PySem.Fin × Array Value) s' => st.1 = none ∧ st.2.toList = row.take j ∧ ∃ h', s' = { s with heap := h' } ∧ h'.objs.size = s.heap.objs.size ∧ IsZipHeld h' z TI TO T true ∧ Its k h' is as 0 j (i + 1) ∧ Its k h' is as j is.length i ∧ ∀ c o, c ≠ z → c ∉ is → s.heap.get? c = some o → h'.get? c = some o)
    _ 0 _ _ ⟨rfl, rfl, h₁, rfl, hs₁.1, hz₁, fun j it a _ h2 => absurd h2 (Nat.not_lt_zero _), fun j it a h1 h2 e1 e2 => itr_keep (hit j it a h1 h2 e1 e2) fun o e => hs₁.extBut _ _ (fun q => D.zi (by rw [← q]; exact List.mem_of_getElem? e1)) e, fun c o c1 _ e => hs₁.extBut _ _ c1 e⟩ ?_) ?_ fun _ _ x => x
  · rintro j it ⟨r, items⟩ s' ej ⟨rfl, hi, h', rfl, hsz', hz', d1, d2, kp⟩
    rw [Nat.zero_add] at *
    dsimp only at hi
    have ej' : (is.map Value.ref)[j]? = some it := by simpa using ej
    rw [List.getElem?_map] at ej'
    obtain ⟨q, eq, rfl⟩ := Option.map_eq_some_iff.mp ej'
    have hj : j < is.length := (List.getElem?_eq_some_iff.mp eq).1
    have ea : as[j]? = some (as[j]'(by omega)) := List.getElem?_eq_getElem (by omega)
    have ex : xss[j]? = some (xss[j]'(by omega)) := List.getElem?_eq_getElem (by omega)
    obtain ⟨v, ev, er⟩ := col.get ex
    have ma := List.mem_of_getElem? ea
    have mq := List.mem_of_getElem? eq
    refine wpAny_bind (wpAny_holding ?_)
    show wpAny _ _ (Builtin.SmallTypes.nextOf (.ref q) >>= _) _ _ _
    refine wpAny_bind (nx_item k (s := { s with heap := h' }) (x := v) (d2 j q _ (Nat.le_refl _) hj eq ea) (sqh_keep (hsq j _ _ ea ex) fun o e => kp _ o (D.az _ ma) (D.ai _ ma) e) (by simpa using ev) fun h₂ hq₂ hs₂ => wpAny_pure ?_)
    refine wpAny_pure ⟨_, rfl, rfl, ?_, h₂, rfl, by rw [hs₂.1]; exact hsz', hs₂.extBut _ _ (fun e => D.zi (by rw [e]; exact mq)) hz', fun j' it' a' l1 l2 e1 e2 => ?_, fun j' it' a' l1 l2 e1 e2 => ?_, fun c o c1 c2 e => hs₂.extBut _ _ (fun e' => c2 (by rw [e']; exact mq)) (kp c o c1 c2 e)⟩
    · show (items.push v).toList = _
      rw [Array.toList_push, hi, take_one er]
    · by_cases e : j' = j
      · subst e
        rw [eq] at e1
        rw [ea] at e2
        cases e1
        cases e2
        exact hq₂
      · exact itr_keep (d1 j' it' a' l1 (by omega) e1 e2) fun o eo => hs₂.extBut _ _ (fun e' => e (nd_inj D.nd e1 (by rw [e']; exact eq))) eo
    · exact itr_keep (d2 j' it' a' (by omega) l2 e1 e2) fun o eo => hs₂.extBut _ _ (fun e' => absurd (nd_inj D.nd e1 (by rw [e']; exact eq)) (by omega)) eo
  · rintro ⟨r, items⟩ s' ⟨rfl, hi, h', rfl, hsz', hz', d1, d2, kp⟩
    have el : 0 + (List.map Value.ref is).toArray.toList.length = is.length := by simp
    rw [el] at hi d1
    dsimp only at hi
    rw [List.take_of_length_le (by omega)] at hi
    dsimp only
    rw [hi]
    refine wpAny_bind (wpAny_newTuple ?_ hsz)
    refine wpAny_pure ⟨_, rfl, ?_⟩
    have hp : IsTup (h'.push { cls := .type "tuple", data := .seq row.toArray }) h'.objs.size row := Heap.get?_push_size _ rfl
    have hz4 : (h'.push { cls := .type "tuple", data := .seq row.toArray }).objs.size = h'.objs.size + 1 := Heap.size_push ..
    show Q (.ref h'.objs.size) _
    rw [hsz'] at hp hz4 ⊢
    exact hQ _ (Heap.get?_push_of_some _ hz') (fun j it a l1 l2 e1 e2 => itr_keep (d1 j it a l1 l2 e1 e2) fun o e => Heap.get?_push_of_some _ e) hp hz4 fun c o c1 c2 e => Heap.get?_push_of_some _ (kp c o c1 c2 e)
theorem end_held {z TI TO T : Addr} {f : Bool} {oT : Obj} {i : Nat} {k : Kd} {is as : List Addr} {xss : List (List Value)} {Q : PySem.Fin → Shared → Prop} (hh : A.handled = none) (D : Apart z TI TO is as)
    (hz : IsZipHeld s.heap z TI TO T f) (hT : s.heap.get? T = some oT) (hTI : IsTup s.heap TI (is.map Value.ref)) (hit : Its k s.heap is as 0 is.length i) (hsq : Sqs k s.heap as xss) (la : as.length = is.length) (lx : xss.length = is.length) (hne : is ≠ []) (hend : ∀ xs ∈ xss, xs.length ≤ i)
    (hE : ∀ h' e, (∀ c o, c ≠ z → c ∉ is → s.heap.get? c = some o → h'.get? c = some o) → (∃ o, h'.get? e = some o ∧ o.cls = .type "StopIteration") → E (.ref e) { s with heap := h' }) :
    wpAny (model pr w) A (Builtin.«zip.__next__» ⟨[.ref z], []⟩) Q E s := by
  show wpAny _ _ (field (.ref z) 2 >>= _) _ _ _
  refine wpAny_bind (wpAny_field hz rfl (x := .bool false) rfl ?_)
  show wpAny _ _ (field (.ref z) 3 >>= _) _ _ _
  refine wpAny_bind (wpAny_field hz rfl (x := .ref TI) rfl ?_)
  refine wpAny_bind (wpAny_seqItems hTI rfl ?_)
  dsimp only
  rw [not_empty hne]
  simp only [Bool.false_eq_true, if_false]
  refine wpAny_bind (wpAny_tupleHeld_zip hz hT fun h₁ hz₁ hs₁ => ?_)
  simp only [Bool.false_eq_true, if_false]
  refine wpAny_bind ?_
  rw [← Array.forIn_toList]
  cases is with
  | nil => exact absurd rfl hne
  | cons q is =>
    cases as with
    | nil => simp at la
    | cons a as =>
      cases xss with
      | nil => simp at lx
      | cons xs xss =>
        have hq := hit 0 q a (Nat.le_refl _) (by simp) rfl rfl
        have ha := hsq 0 a xs rfl rfl
        have na := D.az a (by simp)
        have nq := D.ai a (by simp)
        show wpAny _ _ (forIn (Value.ref q :: is.map Value.ref) _ _) _ _ _
        rw [List.forIn_cons]
        refine wpAny_bind (wpAny_bind (wpAny_holding ?_))
        show wpAny _ _ (Builtin.SmallTypes.nextOf (.ref q) >>= _) _ _ _
        refine wpAny_bind (nx_end k (s := { s with heap := h₁ }) hh (itr_keep hq fun o e => hs₁.extBut _ _ (fun e' => D.zi (by rw [← e']; simp)) e) (sqh_keep ha fun o e => hs₁.extBut _ _ na e) (by
          have := hend xs (by simp)
          simpa using this) fun h₂ e hs₂ he => ?_)
        exact hE h₂ e (fun c o c1 c2 x => hs₂ _ _ (fun e' => c2 (by rw [e']; simp)) (hs₁.extBut _ _ c1 x)) he
theorem upd_tup {T : Addr} {os : List Value} {x : Value} {j : Nat} {Q : Unit → Shared → Prop} (hT : IsTup s.heap T os) (hz : os.length ≤ sizeLine)
    (h : ∀ h', IsTup h' T (os.set j x) → Heap.SameBut T s.heap h' → Q () { s with heap := h' }) : wpAny (model pr w) A (updateSeq T (·.setIfInBounds j x)) Q E s := by
  refine wpAny_updateSeq hT rfl (h _ ?_ (Heap.SameBut.update ..)) (by simp; omega) (by simp; omega)
  show Heap.get? (s.heap.update T _) T = _
  rw [Heap.get?_update_self _ hT rfl]
  simp [Obj.mapSeq]
theorem next_owned {z TI TO : Addr} {i : Nat} {k : Kd} {is as : List Addr} {xss : List (List Value)} {row os : List Value} {Q : Value → Shared → Prop} (D : Apart z TI TO is as)
    (hz : IsZip s.heap z TI TO .none) (hTI : IsTup s.heap TI (is.map Value.ref)) (hTO : IsTup s.heap TO os) (lo : os.length = is.length) (hit : Its k s.heap is as 0 is.length i) (hsq : Sqs k s.heap as xss) (la : as.length = is.length) (lx : xss.length = is.length) (col : Col xss i row) (hne : is ≠ []) (hsz : row.length ≤ sizeLine)
    (hQ : ∀ h', IsZip h' z TI TO (rawInt s.heap.objs.size) → IsTup h' TO row → Its k h' is as 0 is.length (i + 1) → IsTup h' s.heap.objs.size row → h'.objs.size = s.heap.objs.size + 1 → (∀ c o, c ≠ z → c ≠ TO → c ∉ is → s.heap.get? c = some o → h'.get? c = some o) → Q (.ref s.heap.objs.size) { s with heap := h' }) :
    wpAny (model pr w) A (Builtin.«zip.__next__» ⟨[.ref z], []⟩) (fun fin s' => ∃ v, fin = .done (.ret v) ∧ Q v s') E s := by
  show wpAny _ _ (field (.ref z) 2 >>= _) _ _ _
  refine wpAny_bind (wpAny_field hz rfl (x := .bool false) rfl ?_)
  show wpAny _ _ (field (.ref z) 3 >>= _) _ _ _
  refine wpAny_bind (wpAny_field hz rfl (x := .ref TI) rfl ?_)
  refine wpAny_bind (wpAny_seqItems hTI rfl ?_)
  dsimp only
  rw [not_empty hne]
  simp only [Bool.false_eq_true, if_false]
  refine wpAny_bind ?_
  unfold Builtin.SmallTypes.ownedTupleIsFree
  refine wpAny_bind (wpAny_field hz rfl (x := .none) rfl (wpAny_pure ?_))
  simp only [if_true]
  refine wpAny_bind (wpAny_rule ?_)
  refine wpAny_bind (wpAny_field hz rfl (x := .ref TO) rfl ?_)
  refine wpAny_bind (wpAny_setField_rec hz (by simp) fun h₁ hz₁ hs₁ => ?_)
  replace hz₁ : IsZip h₁ z TI TO .ellipsis := hz₁
  refine wpAny_bind ?_
  have rl := col.len
  refine wpAny_mono (steps (fun j (st : Option PySem.Fin × Unit) s' => st.1 = none ∧ ∃ h' os', s' = { s with heap := h' } ∧ h'.objs.size = s.heap.objs.size ∧ IsZip h' z TI TO .ellipsis ∧ IsTup h' TO os' ∧ os'.length = is.length ∧ os'.take j = row.take j ∧ Its k h' is as 0 j (i + 1) ∧ Its k h' is as j is.length i ∧ ∀ c o, c ≠ z → c ≠ TO → c ∉ is → s.heap.get? c = some o → h'.get? c = some o)
    _ 0 _ _ ⟨rfl, h₁, os, rfl, hs₁.1, hz₁, hs₁.extBut _ _ D.TOz hTO, lo, rfl, fun j it a _ h2 => absurd h2 (Nat.not_lt_zero _), fun j it a h1 h2 e1 e2 => itr_keep (hit j it a h1 h2 e1 e2) fun o e => hs₁.extBut _ _ (fun q => D.zi (by rw [← q]; exact List.mem_of_getElem? e1)) e, fun c o c1 _ _ e => hs₁.extBut _ _ c1 e⟩ ?_) ?_ fun _ _ x => x
  · rintro j ⟨it, jj⟩ ⟨r, u⟩ s' ej ⟨rfl, h', os', rfl, hsz', hz', ht', lo', hto, d1, d2, kp⟩
    rw [Nat.zero_add] at *
    have ej' : (is.map Value.ref).zipIdx[j]? = some (it, jj) := by simpa using ej
    rw [List.getElem?_zipIdx, List.getElem?_map] at ej'
    obtain ⟨y, ey, e2⟩ := Option.map_eq_some_iff.mp ej'
    obtain ⟨q, eq, rfl⟩ := Option.map_eq_some_iff.mp ey
    cases e2
    rw [Nat.zero_add]
    have hj : j < is.length := (List.getElem?_eq_some_iff.mp eq).1
    have ea : as[j]? = some (as[j]'(by omega)) := List.getElem?_eq_getElem (by omega)
    have ex : xss[j]? = some (xss[j]'(by omega)) := List.getElem?_eq_getElem (by omega)
    obtain ⟨v, ev, er⟩ := col.get ex
    have ma := List.mem_of_getElem? ea
    have mq := List.mem_of_getElem? eq
    refine wpAny_bind (wpAny_onRaise ?_)
    show wpAny _ _ (Builtin.SmallTypes.nextOf (.ref q) >>= _) _ _ _
    refine wpAny_bind (nx_item k (s := { s with heap := h' }) (x := v) (d2 j q _ (Nat.le_refl _) hj eq ea) (sqh_keep (hsq j _ _ ea ex) fun o e => kp _ o (D.az _ ma) (D.aTO _ ma) (D.ai _ ma) e) (by simpa using ev) fun h₂ hq₂ hs₂ => wpAny_pure ?_)
    have nTq : TO ≠ q := fun e => D.TOi (by rw [e]; exact mq)
    have nzq : z ≠ q := fun e => D.zi (by rw [e]; exact mq)
    have ht₂ : IsTup h₂ TO os' := hs₂.extBut _ _ nTq ht'
    dsimp only
    refine wpAny_bind (wpAny_seqItems ht₂ rfl ?_)
    refine wpAny_bind (upd_tup (s := { s with heap := h₂ }) ht₂ (by omega) fun h₃ ht₃ hs₃ => ?_)
    refine wpAny_bind (wpAny_letGo (wpAny_pure ?_))
    refine ⟨_, rfl, rfl, h₃, _, rfl, by rw [hs₃.1]; show h₂.objs.size = _; rw [hs₂.1]; exact hsz', hs₃.extBut _ _ D.TOz.symm (hs₂.extBut _ _ nzq hz'), ht₃, by rw [List.length_set]; exact lo', ?_, fun j' it' a' l1 l2 e1 e2 => ?_, fun j' it' a' l1 l2 e1 e2 => ?_, fun c o c1 c2 c3 e => hs₃.extBut _ _ c2 (hs₂.extBut _ _ (fun e' => c3 (by rw [e']; exact mq)) (kp c o c1 c2 c3 e))⟩
    · have e3 : (os'.set j v)[j]? = some v := by
        rw [List.getElem?_set_self (by omega)]
      rw [take_one e3, take_one er, List.take_set_of_le (Nat.le_refl _), hto]
    · have n' : it' ≠ TO := fun e => D.TOi (by rw [← e]; exact List.mem_of_getElem? e1)
      by_cases e : j' = j
      · subst e
        rw [eq] at e1
        rw [ea] at e2
        cases e1
        cases e2
        exact itr_keep hq₂ fun o eo => hs₃.extBut _ _ n' eo
      · exact itr_keep (d1 j' it' a' l1 (by omega) e1 e2) fun o eo => hs₃.extBut _ _ n' (hs₂.extBut _ _ (fun e' => e (nd_inj D.nd e1 (by rw [e']; exact eq))) eo)
    · have n' : it' ≠ TO := fun e => D.TOi (by rw [← e]; exact List.mem_of_getElem? e1)
      exact itr_keep (d2 j' it' a' (by omega) l2 e1 e2) fun o eo => hs₃.extBut _ _ n' (hs₂.extBut _ _ (fun e' => absurd (nd_inj D.nd e1 (by rw [e']; exact eq)) (by omega)) eo)
  · rintro ⟨r, u⟩ s' ⟨rfl, h', os', rfl, hsz', hz', ht', lo', hto, d1, d2, kp⟩
    have el : 0 + ((List.map Value.ref is).toArray.toList.zipIdx).length = is.length := by simp
    rw [el] at hto d1
    rw [List.take_of_length_le (by omega), List.take_of_length_le (by omega)] at hto
    subst hto
    dsimp only
    refine wpAny_bind (wpAny_seqItems ht' rfl ?_)
    dsimp only
    refine wpAny_bind (wpAny_newTuple ?_ hsz)
    have hzlt : z < h'.objs.size := Heap.lt_size hz'
    show wpAny _ _ (Builtin.SmallTypes.ownedTupleHandOut (.ref z) (.ref h'.objs.size) >>= _) _ _ _
    refine wpAny_bind ?_
    unfold Builtin.SmallTypes.ownedTupleHandOut
    have hz₆ : IsZip (h'.push { cls := .type "tuple", data := .seq os'.toArray }) z TI TO .ellipsis := Heap.get?_push_of_some _ hz'
    refine wpAny_bind (wpAny_setField_rec hz₆ (by simp) fun h₇ hz₇ hs₇ => ?_)
    replace hz₇ : IsZip h₇ z TI TO (rawInt h'.objs.size) := hz₇
    refine wpAny_setField_rec hz₇ (by simp) fun h₈ hz₈ hs₈ => ?_
    replace hz₈ : IsZip h₈ z TI TO (rawInt h'.objs.size) := hz₈
    have up : ∀ c o, c ≠ z → h'.get? c = some o → h₈.get? c = some o := fun c o c1 e => hs₈.extBut _ _ c1 (hs₇.extBut _ _ c1 (Heap.get?_push_of_some _ e))
    have hT₈ : IsTup h₈ h'.objs.size os' := hs₈.extBut _ _ (Nat.ne_of_gt hzlt) (hs₇.extBut _ _ (Nat.ne_of_gt hzlt) (Heap.get?_push_size _ rfl))
    have hz8 : h₈.objs.size = h'.objs.size + 1 := by rw [hs₈.1, hs₇.1, Heap.size_push]
    rw [hsz'] at hz₈ hT₈ hz8
    refine wpAny_pure ⟨_, rfl, ?_⟩
    show Q (.ref h'.objs.size) _
    rw [hsz']
    exact hQ h₈ hz₈ (up _ _ D.TOz ht') (fun j it a l1 l2 e1 e2 => itr_keep (d1 j it a l1 l2 e1 e2) fun o e => up _ o (fun q => D.zi (by rw [← q]; exact List.mem_of_getElem? e1)) e) hT₈ hz8 fun c o c1 c2 c3 e => up c o c1 (kp c o c1 c2 c3 e)
theorem end_owned {z TI TO : Addr} {i : Nat} {k : Kd} {is as : List Addr} {xss : List (List Value)} {Q : PySem.Fin → Shared → Prop} (hh : A.handled = none) (D : Apart z TI TO is as)
    (hz : IsZip s.heap z TI TO .none) (hTI : IsTup s.heap TI (is.map Value.ref)) (hit : Its k s.heap is as 0 is.length i) (hsq : Sqs k s.heap as xss) (la : as.length = is.length) (lx : xss.length = is.length) (hne : is ≠ []) (hend : ∀ xs ∈ xss, xs.length ≤ i)
    (hE : ∀ h' e, (∀ c o, c ≠ z → c ∉ is → s.heap.get? c = some o → h'.get? c = some o) → (∃ o, h'.get? e = some o ∧ o.cls = .type "StopIteration") → E (.ref e) { s with heap := h' }) :
    wpAny (model pr w) A (Builtin.«zip.__next__» ⟨[.ref z], []⟩) Q E s := by
  show wpAny _ _ (field (.ref z) 2 >>= _) _ _ _
  refine wpAny_bind (wpAny_field hz rfl (x := .bool false) rfl ?_)
  show wpAny _ _ (field (.ref z) 3 >>= _) _ _ _
  refine wpAny_bind (wpAny_field hz rfl (x := .ref TI) rfl ?_)
  refine wpAny_bind (wpAny_seqItems hTI rfl ?_)
  dsimp only
  rw [not_empty hne]
  simp only [Bool.false_eq_true, if_false]
  refine wpAny_bind ?_
  unfold Builtin.SmallTypes.ownedTupleIsFree
  refine wpAny_bind (wpAny_field hz rfl (x := .none) rfl (wpAny_pure ?_))
  simp only [if_true]
  refine wpAny_bind (wpAny_rule ?_)
  refine wpAny_bind (wpAny_field hz rfl (x := .ref TO) rfl ?_)
  refine wpAny_bind (wpAny_setField_rec hz (by simp) fun h₁ hz₁ hs₁ => ?_)
  replace hz₁ : IsZip h₁ z TI TO .ellipsis := hz₁
  refine wpAny_bind ?_
  cases is with
  | nil => exact absurd rfl hne
  | cons q is =>
    cases as with
    | nil => simp at la
    | cons a as =>
      cases xss with
      | nil => simp at lx
      | cons xs xss =>
        have hq := hit 0 q a (Nat.le_refl _) (by simp) rfl rfl
        have ha := hsq 0 a xs rfl rfl
        have na := D.az a (by simp)
        have nzq : z ≠ q := fun e => D.zi (by rw [e]; simp)
        show wpAny _ _ (forIn ((Value.ref q :: is.map Value.ref).zipIdx) _ _) _ _ _
        rw [List.zipIdx_cons, List.forIn_cons]
        refine wpAny_bind (wpAny_bind (wpAny_onRaise ?_))
        show wpAny _ _ (Builtin.SmallTypes.nextOf (.ref q) >>= _) _ _ _
        refine wpAny_bind (nx_end k (s := { s with heap := h₁ }) hh (itr_keep hq fun o e => hs₁.extBut _ _ nzq.symm e) (sqh_keep ha fun o e => hs₁.extBut _ _ na e) (by
          have := hend xs (by simp)
          simpa using this) fun h₂ e hs₂ he => ?_)
        obtain ⟨oe, hoe, hce⟩ := he
        have hz₂ : IsZip h₂ z TI TO .ellipsis := hs₂ _ _ nzq hz₁
        have hez : e ≠ z := fun x => by subst x; rw [hz₂] at hoe; cases hoe; simp at hce
        refine wpAny_setField_rec hz₂ (by simp) fun h₃ _ hs₃ => hE h₃ e (fun c o c1 c2 x => hs₃.extBut _ _ c1 (hs₂ _ _ (fun e' => c2 (by rw [e']; simp)) (hs₁.extBut _ _ c1 x))) ⟨oe, hs₃.extBut _ _ hez hoe, hce⟩
end
theorem it_of (k : Kd) {pr : Program} {w : World} {A : Around} {E : Value → Shared → Prop} {s : Shared} {a : Addr} {items : Array Value} {Q : Value → Shared → Prop} (hl : Sqh k s.heap a items)
    (hQ : ∀ h', Itr k h' s.heap.objs.size a 0 → h'.objs.size = s.heap.objs.size + 1 → (∀ c o, s.heap.get? c = some o → h'.get? c = some o) → Q (.ref s.heap.objs.size) { s with heap := h' }) : wpAny (model pr w) A (pyIter (.ref a)) Q E s := match k, hl, hQ with
  | .l, hl, hQ => wpAny_pyIter_list hl (hQ _ ⟨_, Heap.get?_push_size _ rfl, rfl, rfl⟩ (Heap.size_push ..) fun c o e => Heap.get?_push_of_some _ e)
  | .t, hl, hQ => wpAny_pyIter_tuple hl (hQ _ ⟨_, Heap.get?_push_size _ rfl, rfl, rfl⟩ (Heap.size_push ..) fun c o e => Heap.get?_push_of_some _ e)
def isF (n0 n : Nat) : List Addr := (List.range n).map fun j => n0 + j
theorem isF_get {n0 n j : Nat} (h : j < n) : (isF n0 n)[j]? = some (n0 + j) := by
  unfold isF
  rw [List.getElem?_map, List.getElem?_range h]
  rfl
theorem isF_len {n0 n : Nat} : (isF n0 n).length = n := by
  unfold isF
  rw [List.length_map, List.length_range]
theorem isF_succ {n0 n : Nat} : isF n0 (n + 1) = isF n0 n ++ [n0 + n] := by
  unfold isF
  rw [List.range_succ, List.map_append]
  rfl
section
variable {pr : Program} {w : World} {A : Around} {E : Value → Shared → Prop} {s : Shared}
theorem all_ (k : Kd) {as : List Addr} {xss : List (List Value)} {Q : List Value → Shared → Prop} (hsq : Sqs k s.heap as xss) (lx : xss.length = as.length)
    (hQ : ∀ h', Its k h' (isF s.heap.objs.size as.length) as 0 as.length 0 → h'.objs.size = s.heap.objs.size + as.length → (∀ c o, s.heap.get? c = some o → h'.get? c = some o) → Q ((isF s.heap.objs.size as.length).map Value.ref) { s with heap := h' }) :
    wpAny (model pr w) A (Builtin.SmallTypes.iterAll (as.map Value.ref)) Q E s := by
  unfold Builtin.SmallTypes.iterAll
  refine wpAny_bind (wpAny_mono (steps (fun j (st : Array Value) s' => st.toList = (isF s.heap.objs.size j).map Value.ref ∧ ∃ h', s' = { s with heap := h' } ∧ h'.objs.size = s.heap.objs.size + j ∧ Its k h' (isF s.heap.objs.size as.length) as 0 j 0 ∧ ∀ c o, s.heap.get? c = some o → h'.get? c = some o)
    _ 0 _ _ ⟨rfl, s.heap, rfl, rfl, fun j it a _ h2 => absurd h2 (Nat.not_lt_zero _), fun _ _ e => e⟩ ?_) ?_ fun _ _ x => x)
  · rintro j x st s' ej ⟨hi, h', rfl, hs, d1, kp⟩
    rw [Nat.zero_add] at *
    rw [List.getElem?_map] at ej
    obtain ⟨a, ea, rfl⟩ := Option.map_eq_some_iff.mp ej
    have hj : j < as.length := (List.getElem?_eq_some_iff.mp ea).1
    have ex : xss[j]? = some (xss[j]'(by omega)) := List.getElem?_eq_getElem (by omega)
    refine wpAny_bind (wpAny_holding (it_of k (s := { s with heap := h' }) (sqh_keep (hsq j a _ ea ex) fun o e => kp _ o e) fun h₂ i₂ s₂ k₂ => wpAny_pure ⟨_, rfl, ?_, h₂, rfl, ?_, fun j' it' a' l1 l2 e1 e2 => ?_, fun c o e => k₂ c o (kp c o e)⟩))
    · rw [Array.toList_push, hi, isF_succ, List.map_append]
      show _ ++ [Value.ref h'.objs.size] = _
      rw [hs]
      rfl
    · rw [s₂]
      show h'.objs.size + 1 = _
      omega
    · by_cases e : j' = j
      · subst e
        rw [isF_get hj] at e1
        rw [ea] at e2
        cases e1
        cases e2
        rw [← hs]
        exact i₂
      · exact itr_keep (d1 j' it' a' l1 (by omega) e1 e2) fun o eo => k₂ _ o eo
  · rintro st s' ⟨hi, h', rfl, hs, d1, kp⟩
    have el : 0 + (as.map Value.ref).length = as.length := by simp
    rw [el] at hi hs d1
    refine wpAny_pure ?_
    rw [hi]
    exact hQ h' d1 hs kp
end
theorem meets_new (k : Kd) (as : List Addr) (xss : List (List Value)) :
    Meets (Builtin.«zip.__new__» ⟨.type "zip" :: as.map Value.ref, []⟩) (fun _ R s => Sqs k s.heap as xss ∧ xss.length = as.length ∧ as.length ≤ sizeLine ∧ ∀ h', IsZip h' (s.heap.objs.size + as.length + 2) (s.heap.objs.size + as.length) (s.heap.objs.size + as.length + 1) .none → IsTup h' (s.heap.objs.size + as.length) ((isF s.heap.objs.size as.length).map Value.ref) → IsTup h' (s.heap.objs.size + as.length + 1) (List.replicate as.length .none) →
      Its k h' (isF s.heap.objs.size as.length) as 0 as.length 0 → (∀ c o, s.heap.get? c = some o → h'.get? c = some o) → h'.objs.size = s.heap.objs.size + as.length + 3 → R (.ok (.ret (.ref (s.heap.objs.size + as.length + 2)))) { s with heap := h' }) :=
  .of_wp fun prog w A R s h => by
    have hsub := sub_zip
    obtain ⟨hsq, lx, ln, hR⟩ := h
    unfold Builtin.«zip.__new__»
    have e1 : Builtin.SmallTypes.newClass "zip" ⟨.type "zip" :: as.map Value.ref, []⟩ = pure (.type "zip", as.map Value.ref) := by
      unfold Builtin.SmallTypes.newClass
      simp [isType, hsub]
    rw [e1]
    refine wpAny_bind (wpAny_pure ?_)
    dsimp only
    simp only [List.length_nil, Nat.not_lt_zero, gt_iff_lt, if_false]
    refine wpAny_bind (all_ k hsq lx fun h₁ d1 z1 k1 => ?_)
    have lm : ((isF s.heap.objs.size as.length).map Value.ref).length = as.length := by rw [List.length_map, isF_len]
    refine wpAny_bind (wpAny_newTuple ?_ (by rw [lm]; exact ln))
    have em : ((isF s.heap.objs.size as.length).map Value.ref).map (fun _ => Value.none) = List.replicate as.length Value.none := by
      rw [List.map_const', lm]
    rw [em]
    refine wpAny_bind (wpAny_newTuple ?_ (by rw [List.length_replicate]; exact ln))
    have zs1 : (h₁.push { cls := Value.type "tuple", data := Data.seq ((isF s.heap.objs.size as.length).map Value.ref).toArray }).objs.size = s.heap.objs.size + as.length + 1 := by rw [Heap.size_push, z1]
    have g1 : (h₁.push { cls := Value.type "tuple", data := Data.seq ((isF s.heap.objs.size as.length).map Value.ref).toArray }).get? h₁.objs.size = some { cls := Value.type "tuple", data := Data.seq ((isF s.heap.objs.size as.length).map Value.ref).toArray } := Heap.get?_push_size _ rfl
    have k2 : ∀ c o, h₁.get? c = some o → (h₁.push { cls := Value.type "tuple", data := Data.seq ((isF s.heap.objs.size as.length).map Value.ref).toArray }).get? c = some o := fun c o e => Heap.get?_push_of_some _ e
    dsimp only
    generalize h₁.push { cls := Value.type "tuple", data := Data.seq ((isF s.heap.objs.size as.length).map Value.ref).toArray } = h₂ at zs1 g1 k2 ⊢
    have zs2 : (h₂.push { cls := Value.type "tuple", data := Data.seq (List.replicate as.length Value.none).toArray }).objs.size = s.heap.objs.size + as.length + 2 := by rw [Heap.size_push, zs1]
    have g2 : (h₂.push { cls := Value.type "tuple", data := Data.seq (List.replicate as.length Value.none).toArray }).get? h₂.objs.size = some { cls := Value.type "tuple", data := Data.seq (List.replicate as.length Value.none).toArray } := Heap.get?_push_size _ rfl
    have k3 : ∀ c o, h₂.get? c = some o → (h₂.push { cls := Value.type "tuple", data := Data.seq (List.replicate as.length Value.none).toArray }).get? c = some o := fun c o e => Heap.get?_push_of_some _ e
    generalize h₂.push { cls := Value.type "tuple", data := Data.seq (List.replicate as.length Value.none).toArray } = h₃ at zs2 g2 k3 ⊢
    have g3 : (h₃.push { cls := Value.type "zip", data := .fields #[.none, .bool false, .bool false, .ref h₁.objs.size, .ref h₂.objs.size] }).get? h₃.objs.size = some { cls := Value.type "zip", data := .fields #[.none, .bool false, .bool false, .ref h₁.objs.size, .ref h₂.objs.size] } := Heap.get?_push_size _ rfl
    have k4 : ∀ c o, h₃.get? c = some o → (h₃.push { cls := Value.type "zip", data := .fields #[.none, .bool false, .bool false, .ref h₁.objs.size, .ref h₂.objs.size] }).get? c = some o := fun c o e => Heap.get?_push_of_some _ e
    have zs3 : (h₃.push { cls := Value.type "zip", data := .fields #[.none, .bool false, .bool false, .ref h₁.objs.size, .ref h₂.objs.size] }).objs.size = s.heap.objs.size + as.length + 3 := by rw [Heap.size_push, zs2]
    show wpAny _ _ (newObj (.type "zip") (.fields #[.none, .bool false, .bool false, .ref h₁.objs.size, .ref h₂.objs.size]) >>= _) _ _ _
    refine wpAny_bind (wpAny_newObj_type (wpAny_pure ⟨_, rfl, ?_⟩) ?_)
    · rw [z1, zs1, zs2] at g3
      rw [z1] at g1
      rw [zs1] at g2
      dsimp only
      rw [zs2]
      rw [z1, zs1] at k4 zs3 ⊢
      exact hR _ g3 (k4 _ _ (k3 _ _ g1)) (k4 _ _ g2) (fun j it a l1 l2 e1 e2 => itr_keep (d1 j it a l1 l2 e1 e2) fun o e => k4 _ _ (k3 _ _ (k2 _ _ e))) (fun c o e => k4 _ _ (k3 _ _ (k2 _ _ (k1 c o e)))) zs3
    · show 5 ≤ sizeLine + 2
      decide
theorem typeCall (vs : List Value) : checkTypeCall "zip" ⟨vs, []⟩ = pure () := by kernel_rfl
theorem newCall : ∀ vs : List Value, checkBuiltinCall "zip.__new__" ⟨.type "zip" :: vs, []⟩ = pure ()
  | [] => by kernel_rfl
  | a :: vs => by kernel_rfl
theorem args_init (a : Value) (vs : List Value) : argsOk "object.__init__" ⟨a :: vs, []⟩ := by
  unfold argsOk; rw [signature?_of (id := "object.__init__") (n := ['_', '_', 't', 'i', 'n', 'i', '_', '_']) (o := ['t', 'c', 'e', 'j', 'b', 'o']) (by kernel_rfl) F.owner_object]; kernel_rfl
section
variable {pr : Program} {w : World} {A : Around} {E : Value → Shared → Prop} {s : Shared}
theorem call_zip_n (k : Kd) {as : List Addr} {xss : List (List Value)} {Q : Value → Shared → Prop} (hsq : Sqs k s.heap as xss) (lx : xss.length = as.length) (ln : as.length ≤ sizeLine)
    (h : ∀ h', IsZip h' (s.heap.objs.size + as.length + 2) (s.heap.objs.size + as.length) (s.heap.objs.size + as.length + 1) .none → IsTup h' (s.heap.objs.size + as.length) ((isF s.heap.objs.size as.length).map Value.ref) → IsTup h' (s.heap.objs.size + as.length + 1) (List.replicate as.length .none) →
      Its k h' (isF s.heap.objs.size as.length) as 0 as.length 0 → (∀ c o, s.heap.get? c = some o → h'.get? c = some o) → h'.objs.size = s.heap.objs.size + as.length + 3 → Q (.ref (s.heap.objs.size + as.length + 2)) { s with heap := h' }) :
    wpAny (model pr w) A (call (.type "zip") (as.map Value.ref)) Q E s := by
  refine callType_new F.called_zip (by decide) (typeCall _) (newCall _) (fun obj => args_init obj _) F.entry_zip_new (meets_new k as xss) ⟨hsq, lx, ln, fun h' z ti to it kp sz => ?_⟩
  exact ⟨⟨_, z, rfl⟩, h h' z ti to it kp sz⟩
/-! ### next of it -/
structure Zst (k : Kd) (h : Heap) (z TI TO : Addr) (is as : List Addr) (i : Nat) : Prop where
  zp : (i = 0 ∧ IsZip h z TI TO .none) ∨ ∃ T f o, IsZipHeld h z TI TO T f ∧ h.get? T = some o ∧ T ≠ z ∧ T ≠ TO ∧ T ∉ is
  ti : IsTup h TI (is.map Value.ref)
  to : ∃ os : List Value, IsTup h TO os ∧ os.length = is.length
  it : Its k h is as 0 is.length i
theorem Zst.lz {k : Kd} {h : Heap} {z TI TO : Addr} {is as : List Addr} {i : Nat} (Z : Zst k h z TI TO is as i) : z < h.objs.size := by
  rcases Z.zp with ⟨_, e⟩ | ⟨_, _, _, e, _⟩
  · exact Heap.lt_size e
  · exact Heap.lt_size e
theorem Zst.ty {k : Kd} {z TI TO : Addr} {is as : List Addr} {i : Nat} (Z : Zst k s.heap z TI TO is as i) : s.TypeIs (.ref z) "zip" := by
  rcases Z.zp with ⟨_, e⟩ | ⟨_, _, _, e, _⟩
  · exact ⟨_, e, rfl⟩
  · exact ⟨_, e, rfl⟩
theorem itr_lt {k : Kd} {h : Heap} {it a : Addr} {i : Nat} (x : Itr k h it a i) : it < h.objs.size := by
  obtain ⟨o, e, _⟩ := itr_obj x
  exact Heap.lt_size e
theorem next_ {k : Kd} {z TI TO : Addr} {is as : List Addr} {xss : List (List Value)} {row : List Value} {i : Nat} {Q : Option Value → Shared → Prop} (D : Apart z TI TO is as) (Z : Zst k s.heap z TI TO is as i) (hsq : Sqs k s.heap as xss) (la : as.length = is.length) (lx : xss.length = is.length) (col : Col xss i row) (hne : is ≠ []) (hsz : row.length ≤ sizeLine)
    (hQ : ∀ h', Zst k h' z TI TO is as (i + 1) → IsTup h' s.heap.objs.size row → (∀ c o, c ≠ z → c ≠ TO → c ∉ is → s.heap.get? c = some o → h'.get? c = some o) → Q (some (.ref s.heap.objs.size)) { s with heap := h' }) :
    wpAny (model pr w) A (pyNext (.ref z)) Q E s := by
  have ty := Z.ty
  have lz := Z.lz
  obtain ⟨zp, hTI, ⟨os, hTO, lo⟩, hit⟩ := Z
  have lT : TO < s.heap.objs.size := Heap.lt_size hTO
  have nis : s.heap.objs.size ∉ is := fun m => by
    obtain ⟨j, hj, e⟩ := List.mem_iff_getElem.mp m
    have := itr_lt (hit j is[j] (as[j]'(by omega)) (Nat.zero_le _) hj (List.getElem?_eq_getElem hj) (List.getElem?_eq_getElem (by omega)))
    rw [e] at this
    exact Nat.lt_irrefl _ this
  unfold pyNext
  rcases zp with ⟨_, hz⟩ | ⟨T, f, o, hz, hT, t1, t2, t3⟩
  · exact wpAny_bind (wpAny_attempt (wpAny_callSpecial?_slot (name := Str.ofString "__next__") ty F.slot_zip_next
      (wpAny_call_entry F.slot_zip_next ty F.entry_zip_next
        (next_owned D hz hTI hTO lo hit hsq la lx col hne hsz fun h' a1 a2 a3 a4 a5 a6 => wpAny_pure (hQ h' ⟨.inr ⟨_, false, _, a1, a4, Nat.ne_of_gt lz, Nat.ne_of_gt lT, nis⟩, a6 _ _ D.TIz D.TITO D.TIi hTI, ⟨_, a2, by rw [col.len]; exact lx⟩, a3⟩ a4 a6)) (F.args_zip_next_1 _))))
  · exact wpAny_bind (wpAny_attempt (wpAny_callSpecial?_slot (name := Str.ofString "__next__") ty F.slot_zip_next
      (wpAny_call_entry F.slot_zip_next ty F.entry_zip_next
        (next_held D hz hT hTI hit hsq la lx col hne hsz fun h' a1 a3 a4 a5 a6 => wpAny_pure (hQ h' ⟨.inr ⟨T, true, o, a1, a6 _ _ t1 t3 hT, t1, t2, t3⟩, a6 _ _ D.TIz D.TIi hTI, ⟨os, a6 _ _ D.TOz D.TOi hTO, lo⟩, a3⟩ a4 fun c o c1 _ c3 e => a6 c o c1 c3 e)) (F.args_zip_next_1 _))))
theorem last_ {k : Kd} {z TI TO : Addr} {is as : List Addr} {xss : List (List Value)} {i : Nat} {Q : Option Value → Shared → Prop} (hh : A.handled = none) (D : Apart z TI TO is as) (Z : Zst k s.heap z TI TO is as i) (hsq : Sqs k s.heap as xss) (la : as.length = is.length) (lx : xss.length = is.length) (hne : is ≠ []) (hend : ∀ xs ∈ xss, xs.length ≤ i)
    (hQ : ∀ h', (∀ c o, c ≠ z → c ∉ is → s.heap.get? c = some o → h'.get? c = some o) → Q none { s with heap := h' }) : wpAny (model pr w) A (pyNext (.ref z)) Q E s := by
  have ty := Z.ty
  obtain ⟨zp, hTI, _, hit⟩ := Z
  unfold pyNext
  refine wpAny_bind (wpAny_attempt (wpAny_callSpecial?_slot (name := Str.ofString "__next__") ty F.slot_zip_next (wpAny_call_entry F.slot_zip_next ty F.entry_zip_next ?_ (F.args_zip_next_1 _))))
  rcases zp with ⟨_, hz⟩ | ⟨T, f, o, hz, hT, t1, t2, t3⟩
  · refine end_owned hh D hz hTI hit hsq la lx hne hend fun h' e hk he => ?_
    obtain ⟨o, ho, hc⟩ := he
    refine wpAny_bind (wpAny_isInstance (T := "StopIteration") (b := true) ⟨o, ho, hc⟩ isSubtype_stop ?_)
    exact wpAny_pure (hQ _ hk)
  · refine end_held hh D hz hT hTI hit hsq la lx hne hend fun h' e hk he => ?_
    obtain ⟨o, ho, hc⟩ := he
    refine wpAny_bind (wpAny_isInstance (T := "StopIteration") (b := true) ⟨o, ho, hc⟩ isSubtype_stop ?_)
    exact wpAny_pure (hQ _ hk)
end
/-! ### list(zip(*xs)) -/
section
variable {M : Model} {A : Around} {E : Value → Shared → Prop} {s : Shared} {env : Env} {pos p : Pos} {Q : Value → Shared → Prop} {e : Expr}
theorem callWith_SType {T : String} (h : wpAny M A (eval e env) (fun v s₁ => PySem.W.StarOf M A E v (fun vs s₂ => wpAny M A (call (.type T) vs) Q E s₂) s₁) E s)
    (he : starEach [.Starred e p] env = [(true, eval e env)] := by rfl) : wpAny M A (callWith pos (.type T) [] (backTo pos (starEach [.Starred e p] env)) []) Q E s := by
  rw [he]
  refine PySem.W.ks_call (P := fun _ => True) rfl (fun h _ => ⟨.machine, .inr (.inl rfl), PySem.W.Looks.of_pure rfl⟩) (PySem.W.ks_lone ?_)
  have e2 : (fun vs s₂ => True ∧ wpAny M A (call (Value.type T) ([] ++ (⟨vs, []⟩ : Args).pos) (⟨vs, []⟩ : Args).kw) Q E s₂) = fun vs s₂ => wpAny M A (call (.type T) vs) Q E s₂ := by
    funext vs s₂
    exact propext ⟨fun h => h.2, fun h => ⟨trivial, h⟩⟩
  rw [e2]
  exact h
end
/-- the i-th items, as values told -/
def colV (xss : List (List V)) (i : Nat) : List V := xss.map fun xs => xs.getD i .non
/-- what stands behind list(zip(*xs)): new tuples, a new list of them -/
structure Zipped (H0 H : Hp) (S : Addr) (ts : List Addr) (xss : List (List V)) (m : Nat) : Prop where
  same : Same H0 H
  new : H0 S = none
  lst : H S = some (.lst (ts.map V.ref))
  len : ts.length = m
  get : ∀ (j : Nat) (t : Addr), ts[j]? = some t → H t = some (.tup (colV xss j))
def SqsV (k : Kd) (K : PySem.W.Frag) (H : Hp) (as : List Addr) (xss : List (List V)) : Prop := ∀ (j : Nat) (a : Addr) (xs : List V), as[j]? = some a → xss[j]? = some xs → Sq k K H a xs
theorem SqsV.tail {k : Kd} {K : PySem.W.Frag} {H : Hp} {a : Addr} {as : List Addr} {xs : List V} {xss : List (List V)} (h : SqsV k K H (a :: as) (xs :: xss)) : SqsV k K H as xss := fun j b ys e1 e2 => h (j + 1) b ys e1 e2
theorem sq_same {k : Kd} {K : PySem.W.Frag} {H H' : Hp} {a : Addr} {xs : List V} (s : Same H H') (q : Sq k K H a xs) : Sq k K H' a xs := by
  cases k with
  | l => exact s.seq q
  | t =>
    rcases q with q | q
    · rcases q with q | ⟨o, q⟩
      · exact .inl (.inl (s _ _ q))
      · exact .inl (.inr ⟨o, s _ _ q⟩)
    · exact .inr q
section
variable {X : Cx} {A : Around} {pn : List (Addr × Obj)} {σ : L2.St} {R : Result → Shared → Prop} {H H0 : Hp} {s : Shared}
theorem vals_all {k : Kd} (I : L2.Inv X pn σ H s) : ∀ {as : List Addr} {xss : List (List V)}, xss.length = as.length → SqsV k X.K H as xss → ∃ uss : List (List Value), uss.length = xss.length ∧ (∀ (j : Nat) (xs : List V), xss[j]? = some xs → ∃ us, uss[j]? = some us ∧ Vals xs us) ∧ Sqs k s.heap as uss ∧ ∀ a ∈ as, a < s.heap.objs.size
  | [], [], _, _ => ⟨[], rfl, fun j xs e => by simp at e, fun j a xs e => by simp at e, fun a ha => by cases ha⟩
  | [], _ :: _, e, _ => by simp at e
  | _ :: _, [], e, _ => by simp at e
  | a :: as, xs :: xss, e, q => by
    obtain ⟨us, r, sq, lt⟩ := at_ I (q 0 a xs rfl rfl)
    obtain ⟨uss, l1, l2, l3, l4⟩ := vals_all I (as := as) (xss := xss) (by simpa using e) q.tail
    refine ⟨us :: uss, by rw [List.length_cons, List.length_cons, l1], fun j ys ey => ?_, fun j b ys e1 e2 => ?_, fun b hb => ?_⟩
    · cases j with
      | zero => cases ey; exact ⟨us, rfl, r⟩
      | succ j => exact l2 j ys ey
    · cases j with
      | zero => cases e1; cases e2; exact sq
      | succ j => exact l3 j b ys e1 e2
    · rcases List.mem_cons.mp hb with rfl | hb
      · exact lt
      · exact l4 b hb
theorem col_of : ∀ {xss : List (List V)} {uss : List (List Value)} {m i : Nat}, uss.length = xss.length → (∀ (j : Nat) (xs : List V), xss[j]? = some xs → ∃ us, uss[j]? = some us ∧ Vals xs us) → (∀ xs ∈ xss, xs.length = m) → i < m → ∃ row, Col uss i row ∧ Vals (colV xss i) row
  | [], [], _, _, _, _, _, _ => ⟨[], ⟨rfl, fun e => by simp at e⟩, .nil⟩
  | [], _ :: _, _, _, e, _, _, _ => by simp at e
  | _ :: _, [], _, _, e, _, _, _ => by simp at e
  | xs :: xss, us :: uss, m, i, e, h, hm, hi => by
    obtain ⟨us', e1, r⟩ := h 0 xs rfl
    cases e1
    obtain ⟨row, c, v⟩ := col_of (xss := xss) (uss := uss) (m := m) (i := i) (by simpa using e) (fun j ys ey => h (j + 1) ys ey) (fun ys hy => hm ys (List.mem_cons_of_mem _ hy)) hi
    have hl := hm xs (by simp)
    have hx : xs[i]? = some (xs[i]'(by omega)) := List.getElem?_eq_getElem (by omega)
    obtain ⟨u, eu, ru⟩ := r.get hx
    have ed : xs.getD i V.non = xs[i]'(by omega) := by rw [List.getD_eq_getElem?_getD, hx]; rfl
    refine ⟨u :: row, ⟨by rw [List.length_cons, List.length_cons, c.len], fun {j ys} ej => ?_⟩, ?_⟩
    · cases j with
      | zero => cases ej; exact ⟨u, eu, rfl⟩
      | succ j => exact c.get (j := j) ej
    · show Vals (xs.getD i V.non :: colV xss i) (u :: row)
      rw [ed]
      exact .cons ru v
variable {z TI TO S : Addr} {is as : List Addr} {xss : List (List V)} {m : Nat} {k : Kd}
theorem loop (hh : A.in1.handled = none) (D : Apart z TI TO is as) (res : Value) (la : as.length = is.length) (lx : xss.length = as.length) (hm : ∀ xs ∈ xss, xs.length = m) (hn : m < sizeLine) (ha : as.length ≤ sizeLine) (hne : is ≠ []) (qs : SqsV k X.K H0 as xss) (h0S : H0 S = none) (nS : S ≠ z ∧ S ≠ TI ∧ S ≠ TO ∧ S ∉ is) :
    ∀ (n i : Nat) (s : Shared) (H : Hp) (ts : List Addr), m - i = n → i ≤ m → L2.Inv X pn σ H s → (∀ c ∈ z :: TI :: TO :: is, FpOk X pn H c) → Zst k s.heap z TI TO is as i →
      Same H0 H → H S = some (.lst (ts.map V.ref)) → ts.length = i → (∀ (j : Nat) (t : Addr), ts[j]? = some t → H t = some (.tup (colV xss j))) →
      (∀ (s' : Shared) (H' : Hp) (ts' : List Addr), L2.Inv X pn σ H' s' → Zipped H0 H' S ts' xss m → R (.ok (.ret res)) s') →
      codeAny (model X.prog X.w) A (.builtin "list.extend.loop" ⟨[.ref S, .ref z, res], []⟩) R s := by
  intro n
  induction n with
  | zero =>
    intro i s H ts hk hi I hf Z sm hS ht hg fin
    have e : i = m := by omega
    obtain ⟨uss, l1, l2, l3, l4⟩ := vals_all I lx (fun j a xs e1 e2 => sq_same sm (qs j a xs e1 e2))
    refine codeAny_builtin F.entry_extend_loop ?_
    rw [Around.under_plainId F.plain_extend_loop _]
    show wpAny _ A.in1 (pyNext (.ref z) >>= _) _ _ s
    refine wpAny_bind (last_ hh D Z l3 la (by omega) hne (fun us hu => ?_) fun h' kp => ?_)
    · obtain ⟨j, hj, ej⟩ := List.mem_iff_getElem.mp hu
      obtain ⟨us', e1, r⟩ := l2 j _ (List.getElem?_eq_getElem (by omega))
      rw [List.getElem?_eq_getElem hj, ej] at e1
      cases e1
      have := hm _ (List.getElem_mem (l := xss) (n := j) (by omega))
      have := r.length
      omega
    · refine wpAny_pure (fin _ H ts (I.turnedL (t' := s.toks) (ch := z :: TI :: TO :: is) (fun c o n q => kp c o (fun e => n (by rw [e]; simp)) (fun e => n (by simp [e])) q) hf) ⟨sm, h0S, hS, by omega, hg⟩)
  | succ n ih =>
    intro i s H ts hk hi I hf Z sm hS ht hg fin
    have hlt : i < m := by omega
    obtain ⟨uss, l1, l2, l3, l4⟩ := vals_all I lx (fun j a xs e1 e2 => sq_same sm (qs j a xs e1 e2))
    obtain ⟨row, col, rv⟩ := col_of l1 l2 hm hlt
    have rl := col.len
    refine codeAny_builtin F.entry_extend_loop ?_
    rw [Around.under_plainId F.plain_extend_loop _]
    show wpAny _ A.in1 (pyNext (.ref z) >>= _) _ _ s
    refine wpAny_bind (next_ D Z l3 la (by omega) col hne (by omega) fun h' Z' hT kp => ?_)
    have cl : (colV xss i).length = xss.length := by unfold colV; rw [List.length_map]
    have new : ObjOk X.prog X.w (upd H s.heap.objs.size (.tup (colV xss i))) h' s.heap.objs.size (.tup (colV xss i)) := ⟨by omega, row, rv, ⟨_, hT, rfl, _, rfl⟩⟩
    have I1 := I.turnedNew (t' := s.toks) (ch := z :: TI :: TO :: is) (fun c o n q => kp c o (fun e => n (by rw [e]; simp)) (fun e => n (by rw [e]; simp)) (fun e => n (by simp [e])) q) hf (Nat.le_refl _) new
    have hT0 : H s.heap.objs.size = none := I.hok.fresh (Nat.le_refl _)
    have neS : S ≠ s.heap.objs.size := ne_of_none hS hT0
    have hS1 : upd H s.heap.objs.size (.tup (colV xss i)) S = some (.lst (ts.map V.ref)) := by
      rw [upd_ne neS]
      exact hS
    obtain ⟨_, its, n', ri, eS⟩ := I1.hok S _ hS1
    have il := ri.length
    rw [List.length_map] at il
    show wpAny _ A.in1 (updateSeq S (·.push (.ref s.heap.objs.size)) >>= _) _ _ _
    refine wpAny_bind (wpAny_updateSeq eS rfl (wpAny_pure ?_) (by rw [List.size_toArray]; omega) (by show (its.toArray.push _).size ≤ _; rw [Array.size_push, List.size_toArray]; omega))
    have oth : ∀ c o, c ≠ S → h'.get? c = some o → (h'.update S (Obj.mapSeq (·.push (.ref s.heap.objs.size)))).get? c = some o := fun c o n e => (Heap.get?_update_other _ _ (Ne.symm n)).trans e
    have eS2 := Heap.get?_update_self (Obj.mapSeq (·.push (Value.ref s.heap.objs.size))) eS rfl
    have I2 := I1.write (x := S) (e := S) (o := .lst ((ts ++ [s.heap.objs.size]).map V.ref)) (t' := s.toks) (by rw [hS1]; trivial) (.inl rfl) (fun c o n e => oth c o n e) ⟨_, eS2⟩ ⟨by rw [List.length_map, List.length_append, List.length_singleton]; omega, its ++ [.ref s.heap.objs.size], n' + 1, by rw [List.map_append]; exact ri.append (.cons rfl .nil), by rw [eS2]; simp [Obj.mapSeq]⟩
    have lti : ∀ c ∈ is, c < s.heap.objs.size := fun c hc => by
      obtain ⟨j, hj, e⟩ := List.mem_iff_getElem.mp hc
      have := itr_lt (Z.it j is[j] (as[j]'(by omega)) (Nat.zero_le _) hj (List.getElem?_eq_getElem hj) (List.getElem?_eq_getElem (by omega)))
      rwa [e] at this
    refine ⟨plainId_quiet F.plain_extend_loop _, ih (i + 1) _ _ (ts ++ [s.heap.objs.size]) (by omega) (by omega) I2 (fun c hc => ?_) ?_ ?_ upd_same (by rw [List.length_append, ht]; rfl) ?_ fin⟩
    · have f := hf c hc
      have q : c = z ∨ c = TI ∨ c = TO ∨ c ∈ is := by simpa using hc
      have lt : c ≠ s.heap.objs.size := by
        rcases q with q | q | q | q
        · rw [q]; exact Nat.ne_of_lt Z.lz
        · rw [q]; exact Nat.ne_of_lt (Heap.lt_size Z.ti)
        · rw [q]; obtain ⟨_, e, _⟩ := Z.to; exact Nat.ne_of_lt (Heap.lt_size e)
        · exact Nat.ne_of_lt (lti c q)
      have nc : c ≠ S := by
        rcases q with q | q | q | q
        · rw [q]; exact nS.1.symm
        · rw [q]; exact nS.2.1.symm
        · rw [q]; exact nS.2.2.1.symm
        · exact fun e => nS.2.2.2 (by rw [← e]; exact q)
      refine ⟨?_, f.2⟩
      rw [upd_ne nc, upd_ne lt]
      exact f.1
    · obtain ⟨zp, t1, ⟨os, t2, t3⟩, t4⟩ := Z'
      refine ⟨?_, oth _ _ nS.2.1.symm t1, ⟨os, oth _ _ nS.2.2.1.symm t2, t3⟩, fun j it a l1 l2 e1 e2 => itr_keep (t4 j it a l1 l2 e1 e2) fun o e => oth _ o (fun q => nS.2.2.2 (by rw [← q]; exact List.mem_of_getElem? e1)) e⟩
      rcases zp with ⟨q, _⟩ | ⟨T, f, o, q1, q2, q3⟩
      · omega
      · by_cases eT : T = S
        · exact .inr ⟨T, f, _, oth _ _ nS.1.symm q1, by rw [eT]; exact eS2, q3⟩
        · exact .inr ⟨T, f, o, oth _ _ nS.1.symm q1, oth _ _ eT q2, q3⟩
    · intro c o e
      rw [upd_ne (ne_of_none e h0S), upd_ne (ne_of_none (sm _ _ e) hT0)]
      exact sm _ _ e
    · intro j t hj
      by_cases hji : j < ts.length
      · rw [List.getElem?_append_left hji] at hj
        have q := hg j t hj
        rw [upd_ne (ne_of q hS (by intro z; cases z)), upd_ne (ne_of_none q hT0)]
        exact q
      · have ej : j = i := by
          have := (List.getElem?_eq_some_iff.mp hj).1
          rw [List.length_append, List.length_singleton] at this
          omega
        subst ej
        rw [List.getElem?_append_right (by omega), ht, Nat.sub_self] at hj
        cases hj
        rw [upd_ne neS.symm]
        exact upd_same
def tLZn (K : PySem.W.Frag) (te : TE) : TE := fun σ H Q => te σ H fun x H1 => ∃ (p : Addr) (as : List Addr) (k : Kd) (xss : List (List V)) (m : Nat), x = .ref p ∧ (SqT K H1 p (as.map V.ref) ∨ SqL K H1 p (as.map V.ref)) ∧ as ≠ [] ∧ SqsV k K H1 as xss ∧ xss.length = as.length ∧ (∀ xs ∈ xss, xs.length = m) ∧ m < sizeLine ∧ as.length ≤ sizeLine ∧ ∀ S ts H', Zipped H1 H' S ts xss m → Q (.ref S) H'
theorem vals_refs : ∀ {as : List Addr} {us : List Value}, Vals (as.map V.ref) us → us = as.map Value.ref
  | [], _, .nil => rfl
  | a :: as, _, .cons r rr => by
    cases r
    rw [vals_refs rr]
    rfl
theorem mem_isF {n0 n c : Nat} (h : c ∈ isF n0 n) : n0 ≤ c ∧ c < n0 + n := by
  obtain ⟨j, hj, rfl⟩ := List.mem_map.mp h
  have := List.mem_range.mp hj
  omega
theorem nd_isF {n0 n : Nat} : (isF n0 n).Nodup := by
  unfold isF
  rw [List.nodup_iff_pairwise_ne, List.pairwise_map]
  exact (List.nodup_range (n := n)).imp fun {a b} h e => h (Nat.add_left_cancel e)
theorem pe_LZn {e : Expr} {te : TE} {p p2 pos pos2 sp : Pos} (hc : X.calm = true) (hg : Gl X "list") (hm : X.mg "list" = none) (hg2 : Gl X "zip") (hm2 : X.mg "zip" = none) (he : PE X e te)
    (hs : starEach [.Starred e sp] X.env = [(true, eval e X.env)] := by rfl)
    (hs2 : starEach [.Call (.Name "zip" p2) [.Starred e sp] [] pos2] X.env = (false, eval (.Call (.Name "zip" p2) [.Starred e sp] [] pos2) X.env) :: starEach [] X.env := by rfl) :
    PE X (.Call (.Name "list" p) [.Call (.Name "zip" p2) [.Starred e sp] [] pos2] [] pos) (tLZn X.K te) := by
  refine ⟨fun pn s σ H Q I h => ?_⟩
  refine Call_ (ld_blt I hg hm boot_list (PyProof.Rows.callWith_type1 (args_cons (Call_ (ld_blt I hg2 hm2 boot_zip (callWith_SType (thn (he.run pn s σ H _ I h) fun v s0 ⟨x, H1, I0, rx, q1⟩ => ?_) hs))) hs2) hs2 rfl))
  obtain ⟨pp, as, k, xss, m, ex, hp, hne, qs, lx, hm', hn, ha, q⟩ := q1
  subst ex
  obtain rfl : v = Value.ref pp := rx
  refine StX.star_any I0 hp fun us s1 I1 rv => ?_
  obtain rfl := vals_refs rv
  obtain ⟨uss, l1, l2, l3, l4⟩ := vals_all I1 lx qs
  refine call_zip_n k l3 (by omega) ha fun h' hz hTI hTO hit kp hsz => args_nil ?_
  have I2 : L2.Inv X pn σ H1 { s1 with heap := h' } := I1.kept (t' := s1.toks) kp
  have D : Apart (s1.heap.objs.size + as.length + 2) (s1.heap.objs.size + as.length) (s1.heap.objs.size + as.length + 1) (isF s1.heap.objs.size as.length) as := by
    refine ⟨nd_isF, fun m => ?_, fun m => ?_, fun m => ?_, Nat.ne_of_lt (Nat.lt_add_of_pos_right (by decide)), Nat.ne_of_lt (Nat.lt_succ_self _), Nat.ne_of_lt (Nat.lt_succ_self _), fun a ha m => ?_, fun a ha => Nat.ne_of_lt ?_, fun a ha => Nat.ne_of_lt ?_⟩
    · have := (mem_isF m).2
      omega
    · have := (mem_isF m).2
      omega
    · have := (mem_isF m).2
      omega
    · exact Nat.lt_irrefl _ (Nat.lt_of_lt_of_le (l4 a ha) (mem_isF m).1)
    · exact Nat.lt_of_lt_of_le (l4 a ha) (by omega)
    · exact Nat.lt_of_lt_of_le (l4 a ha) (by omega)
  have hh : X.A.in1.in1.handled = none := I1.ok.hd hc
  have hni : isF s1.heap.objs.size as.length ≠ [] := fun e => hne (by
    have := congrArg List.length e
    rw [isF_len] at this
    exact List.eq_nil_of_length_eq_zero this)
  have lis : as.length = (isF s1.heap.objs.size as.length).length := isF_len.symm
  have fp : ∀ c ∈ (s1.heap.objs.size + as.length + 2) :: (s1.heap.objs.size + as.length) :: (s1.heap.objs.size + as.length + 1) :: isF s1.heap.objs.size as.length, FpOk X pn H1 c := fun c hcm => by
    have le : s1.heap.objs.size ≤ c := by
      have e' : c = s1.heap.objs.size + as.length + 2 ∨ c = s1.heap.objs.size + as.length ∨ c = s1.heap.objs.size + as.length + 1 ∨ c ∈ isF s1.heap.objs.size as.length := by simpa using hcm
      rcases e' with q | q | q | q
      · rw [q]
        exact Nat.le_trans (Nat.le_add_right _ _) (Nat.le_add_right _ _)
      · rw [q]
        exact Nat.le_add_right _ _
      · rw [q]
        exact Nat.le_trans (Nat.le_add_right _ _) (Nat.le_add_right _ _)
      · exact (mem_isF q).1
    exact I1.fpOk le (I1.hok.fresh le)
  have lto : (List.replicate as.length Value.none).length = (isF s1.heap.objs.size as.length).length := by rw [List.length_replicate, isF_len]
  have lti : ∀ c ∈ isF s1.heap.objs.size as.length, c < h'.objs.size := fun c hc => by
    refine Nat.lt_of_lt_of_le (mem_isF hc).2 ?_
    rw [hsz]
    exact Nat.le_add_right _ _
  have hit2 : Its k h' (isF s1.heap.objs.size as.length) as 0 (isF s1.heap.objs.size as.length).length 0 := by
    rw [isF_len]
    exact hit
  clear hit
  generalize s1.heap.objs.size + as.length + 2 = z at *
  generalize s1.heap.objs.size + as.length + 1 = TO at *
  generalize s1.heap.objs.size + as.length = TI at *
  generalize isF s1.heap.objs.size as.length = is at *
  have Z0 : Zst k h' z TI TO is as 0 := ⟨.inl ⟨rfl, hz⟩, hTI, ⟨_, hTO, lto⟩, hit2⟩
  refine callType_codes (Q₁ := fun obj t => obj = .ref h'.objs.size ∧ t = { s1 with heap := h'.push { cls := .type "list", data := .seq #[] } }) F.called_list (F.typeCall_list_1 _) F.entry_list_init (code_list_new _ ⟨rfl, rfl⟩) fun obj t ht => ?_
  obtain ⟨rfl, rfl⟩ := ht
  have eS : (h'.push { cls := .type "list", data := .seq #[] }).get? h'.objs.size = some { cls := .type "list", data := .seq #[] } := Heap.get?_push_size _ rfl
  have up : ∀ c o, h'.get? c = some o → (h'.push { cls := .type "list", data := .seq #[] }).get? c = some o := fun c o e => Heap.get?_push_of_some _ e
  refine ⟨⟨_, eS, rfl⟩, F.args_list_init_2 _ _, ?_⟩
  generalize h'.push { cls := .type "list", data := .seq #[] } = g at eS up ⊢
  have nS : h'.objs.size ≠ z ∧ h'.objs.size ≠ TI ∧ h'.objs.size ≠ TO ∧ h'.objs.size ∉ is := ⟨Nat.ne_of_gt Z0.lz, Nat.ne_of_gt (Heap.lt_size hTI), Nat.ne_of_gt (Heap.lt_size hTO), fun m => Nat.lt_irrefl _ (lti _ m)⟩
  have h0S : H1 h'.objs.size = none := I2.hok.fresh (Nat.le_refl _)
  generalize eN : h'.objs.size = S at eS nS h0S ⊢
  show wpAny _ _ (do let old ← Builtin.List.listItems (.ref S); Builtin.List.listUpdate (.ref S) (fun _ => #[]); letGo old.toList.reverse; Builtin.List.listExtendWith (.ref S) (.ref z) .none) _ _ _
  unfold Builtin.List.listItems
  refine wpAny_bind (wpAny_bind (wpAny_seqItems eS rfl (wpAny_pure ?_)))
  show wpAny _ _ (updateSeq S (fun _ => #[]) >>= fun _ => letGo (#[] : Array Value).toList.reverse >>= fun _ => Builtin.List.listExtendWith (.ref S) (.ref z) .none) _ _ _
  refine wpAny_bind (wpAny_updateSeq eS rfl ?_)
  have eS2 := Heap.get?_update_self (Obj.mapSeq (fun _ => (#[] : Array Value))) eS rfl
  have o2 : ∀ c o, c ≠ S → g.get? c = some o → (g.update S (Obj.mapSeq (fun _ => (#[] : Array Value)))).get? c = some o := fun c o n e => (Heap.get?_update_other _ _ (Ne.symm n)).trans e
  refine wpAny_bind (wpAny_letGo ?_)
  generalize g.update S (Obj.mapSeq (fun _ => (#[] : Array Value))) = g2 at eS2 o2 ⊢
  have hz2 : IsZip g2 z TI TO .none := o2 _ _ nS.1.symm (up _ _ hz)
  have ty2 : Shared.TypeIs { s1 with heap := g2 } (.ref z) "zip" := ⟨_, hz2, rfl⟩
  unfold Builtin.List.listExtendWith
  refine wpAny_bind (wpAny_typeOf ty2 ?_)
  have c1 : Builtin.List.listSameRef (.ref S) (.ref z) = false := by simp [Builtin.List.listSameRef, nS.1]
  have c2 : (Value.type "zip" == Value.type "list") = false := by decide
  have c3 : (Value.type "zip" == Value.type "tuple") = false := by decide
  simp only [c1, c2, c3, Bool.or_false, Bool.false_eq_true, if_false]
  refine wpAny_bind (wpAny_pyIter_zip hz2 ?_)
  refine wpAny_bind (wpAny_holding ?_)
  unfold Builtin.List.listLengthHint
  refine wpAny_bind (wpAny_specialOf ty2 Lz.zip_no_len ?_)
  show wpAny _ _ (specialOf (Value.ref z) (Str.ofString "__length_hint__") >>= _) _ _ _
  refine wpAny_bind (wpAny_specialOf ty2 Lz.zip_no_hint (wpAny_pure ?_))
  show wpAny _ _ (rule "list.extend.makes-room" >>= fun _ => Builtin.List.listTouch (.ref S) >>= fun _ => again (.builtin "list.extend.loop" ⟨[.ref S, .ref z, .none], []⟩)) _ _ _
  refine wpAny_bind (wpAny_rule (wpAny_bind ?_))
  show wpAny _ _ (updateSeq S (·.push .none) >>= fun _ => updateSeq S (·.pop)) _ _ _
  refine wpAny_bind (wpAny_updateSeq eS2 rfl ?_)
  have eS3 := Heap.get?_update_self (Obj.mapSeq (·.push Value.none)) eS2 rfl
  refine wpAny_updateSeq (hz := by seq_fits) eS3 rfl ?_
  have eS4 := Heap.get?_update_self (Obj.mapSeq (·.pop)) eS3 rfl
  have o4 : ∀ c o, c ≠ S → g2.get? c = some o → ((g2.update S (Obj.mapSeq (·.push Value.none))).update S (Obj.mapSeq (·.pop))).get? c = some o := fun c o n e => (Heap.get?_update_other _ _ (Ne.symm n)).trans ((Heap.get?_update_other _ _ (Ne.symm n)).trans e)
  refine wpAny_pure ⟨plainId_quiet F.plain_extend_loop _, ?_⟩
  generalize (g2.update S (Obj.mapSeq (·.push Value.none))).update S (Obj.mapSeq (·.pop)) = g4 at eS4 o4 ⊢
  have kp4 : ∀ c o, h'.get? c = some o → g4.get? c = some o := fun c o e => by
    have n : c ≠ S := by
      rw [← eN]
      exact Nat.ne_of_lt (Heap.lt_size e)
    exact o4 c o n (o2 c o n (up c o e))
  have I4 := I2.laid (t' := s1.toks) (o := .lst (([] : List Addr).map V.ref)) kp4 (Nat.le_of_eq eN) ⟨by simp, [], _, .nil, eS4⟩
  refine loop hh D .none lis lx hm' hn ha hni qs h0S nS m 0 _ _ [] (by omega) (Nat.zero_le _) I4 (fun c hcm => ?_) ⟨.inl ⟨rfl, kp4 _ _ hz⟩, kp4 _ _ hTI, ⟨_, kp4 _ _ hTO, lto⟩, fun j it a l1 l2 e1 e2 => itr_keep (Z0.it j it a l1 l2 e1 e2) fun o e => kp4 _ _ e⟩ (fun c o e => by rw [upd_ne (ne_of_none e h0S)]; exact e) upd_same rfl (fun j t hj => by simp at hj) ?_
  · have f := fp c hcm
    refine ⟨?_, f.2⟩
    have n : c ≠ S := by
      have e' : c = z ∨ c = TI ∨ c = TO ∨ c ∈ is := by simpa using hcm
      rcases e' with q | q | q | q
      · rw [q]; exact nS.1.symm
      · rw [q]; exact nS.2.1.symm
      · rw [q]; exact nS.2.2.1.symm
      · exact fun e => nS.2.2.2 (by rw [← e]; exact q)
    rw [upd_ne n]
    exact f.1
  · intro s' H' ts' I' Z'
    exact ⟨rfl, ⟨.ref S, H', I', rfl, q S ts' H' Z'⟩⟩
end
end Zn
set_option linter.all false
/-! enumerate(x), x a list or a tuple -/
namespace En
open PySem PySem.Spec PyProof.Rows L2 Zm
set_option maxHeartbeats 1000000 in
theorem meets_new {v : Value} {o : Obj} {H : Heap → Prop} (B : Begins v o H) :
    Meets (Builtin.«enumerate.__new__» ⟨[.type "enumerate", v], []⟩) (fun _ R s => H s.heap ∧
      R (.ok (.ret (.ref (s.heap.push o).objs.size))) { s with heap := (s.heap.push o).push { cls := .type "enumerate", data := .fields #[.none, .bool false, .ref s.heap.objs.size, rawInt 0, .none, .none] } }) :=
  .of_wp fun prog w A R s h => by
    obtain ⟨hp, g, d, tk, os⟩ := s; obtain ⟨h1, h⟩ := h
    have hsub := sub_enumerate
    have q1 : ∀ {A' : Around} {E : Value → Shared → Prop} {Q : Value → Shared → Prop}, Q (.ref hp.objs.size) ⟨hp.push o, g, d, tk, os⟩ → wpAny (model prog w) A' (pyIter v) Q E ⟨hp, g, d, tk, os⟩ :=
      fun q => B.iter prog w _ _ ⟨hp, g, d, tk, os⟩ _ h1 q
    wp_walk using q1
    refine wpAny_stack_any fun st => wpAny_pure ?_
    split
    · rename_i c _ _ _ _ _
      cases (c == Value.type "enumerate")
      · wp_walk using q1
        exact ⟨_, rfl, h⟩
      · wp_walk using q1
        exact ⟨_, rfl, h⟩
    · wp_walk using q1
      exact ⟨_, rfl, h⟩
section
variable {prog : Program} {w : World} {A : Around} {E : Value → Shared → Prop} {s : Shared}
theorem begins {v : Value} {o : Obj} {H : Heap → Prop} {Q : Value → Shared → Prop} (B : Begins v o H) (h1 : H s.heap)
    (h : ∀ h', IsEnum h' (s.heap.objs.size + 1) s.heap.objs.size 0 .none → h'.get? s.heap.objs.size = some o → h'.objs.size = s.heap.objs.size + 2 →
      (∀ b o, s.heap.get? b = some o → h'.get? b = some o) → Q (.ref (s.heap.objs.size + 1)) { s with heap := h' }) :
    wpAny (model prog w) A (call (.type "enumerate") [v]) Q E s := by
  refine callType_new F.called_enumerate (by decide) (F.typeCall_enumerate_1 _) (F.newCall_enumerate_1 _) (fun obj => F.args_object_init_2 obj _) F.entry_enumerate_new
    (meets_new B) ⟨h1, ?_⟩
  have hz : (s.heap.push o).objs.size = s.heap.objs.size + 1 := Heap.size_push ..
  show _ ∧ _
  rw [hz]
  have he : IsEnum ((s.heap.push o).push { cls := .type "enumerate", data := .fields #[.none, .bool false, .ref s.heap.objs.size, rawInt 0, .none, .none] }) (s.heap.objs.size + 1) s.heap.objs.size 0 .none := by
    have := Heap.get?_push_size (s.heap.push o) (o := { cls := .type "enumerate", data := .fields #[.none, .bool false, .ref s.heap.objs.size, rawInt 0, .none, .none] }) rfl
    rw [hz] at this; exact this
  refine ⟨⟨_, he, rfl⟩, h _ he (Heap.get?_push_of_some _ (Heap.get?_push_size _ B.free)) (by rw [Heap.size_push, hz]) fun b o x => Heap.get?_push_of_some _ (Heap.get?_push_of_some _ x)⟩
end
def ItE (k : Kd) (K : PySem.W.Frag) (a : Addr) : It where
  go i H := ∃ (xs : List V) (x : V), Sq k K H a xs ∧ xs[i]? = some x
  yld i H v H' := ∃ T x, v = .ref T ∧ H T = none ∧ H' = upd H T (.tup [.int (i : Nat), x]) ∧ ∀ xs, Sq k K H a xs → xs[i]? = some x
  stop i H := ∃ xs : List V, Sq k K H a xs ∧ xs.length = i
theorem trn {P : Program} {w : World} {K : PySem.W.Frag} {k : Kd} {es : List Expr} {kk : Nat} {tp : Pos} {a e it : Addr} (ne : e ≠ it) (na : a ≠ it) (nea : e ≠ a) :
    Turn P w K (.Tuple es kk tp) (ItE k K a) [e, it] e (fun i h => (∃ old, IsEnum h e it (0 + ((i : Nat) : Int)) old) ∧ Itr k h it a i) where
  mem := by simp
  obj := fun i h st c hc => by
    obtain ⟨⟨old, he⟩, h1⟩ := st
    have e' : c = e ∨ c = it := by simpa using hc
    rcases e' with z | z
    · rw [z]; exact ⟨_, he, fun v q => nomatch q⟩
    · rw [z]; exact itr_obj h1
  keep := fun i h h' st kp => by
    obtain ⟨⟨old, he⟩, h1⟩ := st
    exact ⟨⟨old, kp e (by simp) _ he⟩, itr_keep h1 fun o q => kp it (by simp) o q⟩
  item := by
    intro X eP ew eK calm i pn s σ H E I hf st gg
    subst eP ew eK
    obtain ⟨hE, h1⟩ := st
    obtain ⟨xs, x, qx, hx⟩ := gg
    obtain ⟨us, rv, p1, _⟩ := at_ I qx
    have hh : X.A.in1.handled = none := I.ok.hd calm
    have l1 : i < us.toArray.size := by
      have := (List.getElem?_eq_some_iff.mp hx).1
      rw [List.size_toArray, ← rv.length]
      exact this
    refine (GoesN.enumFrom 0 (drw k hh na us.toArray) e ne (by simp [ne, nea]) (by simp)).goes i s (fun u s2 => ∃ x H', Inv X pn σ H' s2 ∧ RelV x u ∧ (ItE k X.K a).yld i H x H' ∧ _ ∧ ∀ c ∈ _, H' c = none) E l1 ⟨hE, h1, p1⟩ fun v h' tk Y st' kp _ => ?_
    obtain ⟨T, t, u, rfl, le, hu, hT⟩ := Y
    obtain ⟨hE', h1', _⟩ := st'
    obtain ⟨w1, e1, r1⟩ := rv.get hx
    have c1 : w1 = u := by
      have z1 : us[i]? = some u := by simpa using hu
      rw [e1] at z1
      exact Option.some.inj z1
    subst c1
    have fresh : H T = none := I.hok.fresh le
    have e0 : (0 : Int) + ((i : Nat) : Int) = ((i : Nat) : Int) := by omega
    rw [e0] at hT
    have new : ObjOk X.prog X.w (upd H T (.tup [.int (i : Nat), x])) h' T (.tup [.int (i : Nat), x]) := ⟨by show 2 ≤ sizeLine; decide, [.int (i : Nat) t, w1], .cons ⟨_, rfl⟩ (.cons r1 .nil), hT⟩
    have I1 := I.turnedNew (t' := tk) (ch := [e, it]) (fun c o n q => kp c o n q) hf le new
    refine ⟨.ref T, _, I1, rfl, ⟨T, x, rfl, fresh, rfl, fun l hl => by rw [inj I hl qx]; exact hx⟩, ⟨hE', h1'⟩, fun c hc => ?_⟩
    have lt : c < s.heap.objs.size := by
      have e' : c = e ∨ c = it := by simpa using hc
      rcases e' with z | z
      · obtain ⟨_, he⟩ := hE
        rw [z]; exact Heap.lt_size he
      · obtain ⟨_, q, _⟩ := itr_obj h1
        rw [z]; exact Heap.lt_size q
    rw [upd_ne (Nat.ne_of_lt (Nat.lt_of_lt_of_le lt le))]
    exact (hf c hc).1
  done := by
    intro X eP ew eK calm i pn s σ H E I hf st gg
    subst eP ew eK
    obtain ⟨hE, h1⟩ := st
    obtain ⟨xs, qx, hx⟩ := gg
    obtain ⟨us, rv, p1, _⟩ := at_ I qx
    have hh : X.A.in1.handled = none := I.ok.hd calm
    have e0 : i = us.toArray.size := by
      have l1 := rv.length
      simp
      omega
    subst e0
    exact (GoesN.enumFrom (elts := es) (x1 := kk) (pos := tp) 0 (drw k hh na us.toArray) e ne (by simp [ne, nea]) (by simp)).stops s (fun s1 => Inv X pn σ H s1) E ⟨hE, h1, p1⟩ fun h' tk kp _ => I.turnedL (t' := tk) (ch := [e, it]) (fun c o n q => kp c o n q) hf
  self := fun A i s Q E st h => let ⟨⟨_, he⟩, _⟩ := st; wpAny_pyIter_enum he h
def iEnumK (K : PySem.W.Frag) (ta : TA) : TI := fun σ H R => ta σ H fun vs H1 => ∃ k a xs, vs = [.ref a] ∧ Sq k K H1 a xs ∧ R (ItE k K a) H1
theorem pi_enumK {X : Cx} {e : Expr} {ta : TA} {p pos tp : Pos} {es : List Expr} {kk : Nat} (hg : Gl X "enumerate") (hm : X.mg "enumerate" = none) (ha : PA X [e] ta) (hs : starEach [e] X.env = [(false, eval e X.env)] := by rfl) :
    PI X (.Tuple es kk tp) (.Call (.Name "enumerate" p) [e] [] pos) (iEnumK X.K ta) := by
  refine ⟨fun pn s σ H R I h => ?_⟩
  refine Call_ (ld_blt I hg hm boot_enumerate (PyProof.Rows.callWith_type1 (thn (ha.run pos pn s σ H _ I h) fun us s1 ⟨vs, H1, I1, r1, q1⟩ => ?_) hs rfl))
  obtain ⟨k, a, xs, ex, qx, q⟩ := q1
  subst ex
  cases r1 with
  | cons r rr =>
    cases rr
    cases r
    obtain ⟨us, rv, p1, la⟩ := at_ I1 qx
    obtain ⟨o1, B1, f1⟩ := bgn k a us.toArray
    refine begins B1 p1 fun h' he g1 hsz kp => wpAny_pyIter_enum he ?_
    have ne1 : a ≠ s1.heap.objs.size := Nat.ne_of_lt la
    have ne2 : s1.heap.objs.size + 1 ≠ a := Nat.ne_of_gt (Nat.lt_succ_of_lt la)
    refine ⟨_, _, _, _, H1, rfl, I1.kept (t' := s1.toks) kp, trn (k := k) (Nat.succ_ne_self _) ne1 ne2, ⟨⟨.none, he⟩, f1 _ _ g1⟩, fun c hc => ?_, q⟩
    have e' : c = s1.heap.objs.size + 1 ∨ c = s1.heap.objs.size := by simpa using hc
    have le : s1.heap.objs.size ≤ c := by
      rcases e' with z | z
      · rw [z]; exact Nat.le_add_right _ _
      · rw [z]; exact Nat.le_refl _
    exact I1.fpOk le (I1.hok.fresh le)
theorem walkE {k : Kd} {K : PySem.W.Frag} {a : Addr} {xs : List V} : Walk (ItE k K a) xs.length (fun H => Sq k K H a xs) (YPair (fun i => some (.int (i : Nat))) (fun i => xs[i]?)) := by
  refine ⟨fun i _ hi q => ⟨xs, xs[i], q, by simp [hi]⟩, fun _ q => ⟨xs, q, rfl⟩, fun i H v H' _ q y => ?_⟩
  obtain ⟨T, x, h1, h2, h3, h4⟩ := y
  exact ⟨T, .int (i : Nat), x, h1, h2, h3, rfl, h4 xs q⟩
/-- a subscript of a list or a tuple -/
def rIxK (K : PySem.W.Frag) : R2 := fun x y H Q => ∃ p k xs i v, x = .ref p ∧ y = .int i ∧ Sq k K H p xs ∧ atI xs i = some v ∧ Q v H
theorem ix_kd {X : Cx} : IxR X (rIxK X.K) := by
  intro value slice pins s σ H x y v u Q I rx ry h hs
  obtain ⟨p, k, xs, i, z, rfl, rfl, hq, he, q⟩ := h
  cases k with
  | l => exact ix_list value slice pins s σ H _ _ v u Q I rx ry ⟨p, xs, i, z, rfl, rfl, hq, he, q⟩ hs
  | t => exact ix_tup value slice pins s σ H _ _ v u Q I rx ry ⟨p, xs, i, z, rfl, rfl, hq, he, q⟩ hs
end En
set_option linter.all false
/-! numbers by which rows make a row: leads of their columns -/
namespace Lin
theorem dot_last : ∀ (n : Nat) (u v : Vc), dot u v (n + 1) = dot u v n + u n * v n
  | 0, u, v => by
    show u 0 * v 0 + 0 = 0 + u 0 * v 0
    omega
  | n + 1, u, v => by
    show u 0 * v 0 + dot (shf u) (shf v) (n + 1) = u 0 * v 0 + dot (shf u) (shf v) n + u (n + 1) * v (n + 1)
    rw [dot_last n (shf u) (shf v)]
    show u 0 * v 0 + (dot (shf u) (shf v) n + u (n + 1) * v (n + 1)) = _
    omega
theorem dot_ext : ∀ (n : Nat) {u v w x : Vc}, (∀ i, i < n → u i = v i) → (∀ i, i < n → w i = x i) → dot u w n = dot v x n
  | 0, _, _, _, _, _, _ => rfl
  | n + 1, u, v, w, x, h, k => by
    show u 0 * w 0 + dot (shf u) (shf w) n = v 0 * x 0 + dot (shf v) (shf x) n
    rw [h 0 (by omega), k 0 (by omega), dot_ext n (u := shf u) (v := shf v) (w := shf w) (x := shf x) (fun i hi => h (i + 1) (by omega)) (fun i hi => k (i + 1) (by omega))]
def col (fs : List (List Int)) (j : Nat) : Vc := fun i => vec (fs.getD i []) j
theorem shf_col {f : List Int} {fs : List (List Int)} {j : Nat} : shf (col (f :: fs) j) = col fs j := by
  funext i
  show vec ((f :: fs).getD (i + 1) []) j = vec (fs.getD i []) j
  simp
theorem lot_coef {p : Int} {fs : List (List Int)} {u : Vc} (h : Lot p (spn fs) u) : ∃ a : Vc, ∀ j, Cg p (u j) (dot a (col fs j) fs.length) := by
  induction h with
  | zero => exact ⟨fun _ => 0, fun j => by rw [dot_zeroL]; exact Cg.rfl'⟩
  | @add u v c _ r ih =>
    obtain ⟨a, ha⟩ := ih
    obtain ⟨f, hf, rfl⟩ := r
    obtain ⟨i, hi, rfl⟩ := List.mem_iff_getElem.mp hf
    refine ⟨fun k => a k + c * un i k, fun j => ?_⟩
    rw [dot_combL, dot_comm _ (un i), dot_un _ i _ hi]
    have e : col fs j i = vec fs[i] j := by
      show vec (fs.getD i []) j = _
      rw [List.getD_eq_getElem?_getD, List.getElem?_eq_getElem hi]
      rfl
    rw [e]
    exact (ha j).add Cg.rfl'
  | eqv _ e ih =>
    obtain ⟨a, ha⟩ := ih
    exact ⟨a, fun j => (e j).symm.trans (ha j)⟩
/-- place j of all of them -/
def colI (gs : List (List Int)) (j : Nat) : List Int := gs.map fun g => g.getD j 0
theorem vec_col {gs : List (List Int)} {j i : Nat} : vec (colI gs j) i = col gs j i := by
  show (gs.map fun g => g.getD j 0).getD i 0 = (gs.getD i []).getD j 0
  rw [List.getD_eq_getElem?_getD, List.getD_eq_getElem?_getD (l := gs), List.getElem?_map]
  cases gs[i]? with
  | none => rfl
  | some g => rfl
theorem col_app {fs : List (List Int)} {f : List Int} {j i : Nat} (h : i < fs.length) : col (fs ++ [f]) j i = col fs j i := by
  show vec ((fs ++ [f]).getD i []) j = vec (fs.getD i []) j
  rw [List.getD_eq_getElem?_getD, List.getD_eq_getElem?_getD, List.getElem?_append_left h]
theorem col_end {fs : List (List Int)} {f : List Int} {j : Nat} : col (fs ++ [f]) j fs.length = vec f j := by
  show vec ((fs ++ [f]).getD fs.length []) j = vec f j
  rw [List.getD_eq_getElem?_getD]
  simp
def cols (fs : List (List Int)) (f : List Int) (n : Nat) : List (List Int) := (List.range n).map (colI (fs ++ [f]))
theorem mem_cols {fs : List (List Int)} {f : List Int} {n : Nat} {v : Vc} (h : spn (cols fs f n) v) : ∃ j, j < n ∧ v = col (fs ++ [f]) j := by
  obtain ⟨g, hg, rfl⟩ := h
  obtain ⟨j, hj, rfl⟩ := List.mem_map.mp hg
  exact ⟨j, List.mem_range.mp hj, funext fun i => vec_col⟩
theorem share_yes {p : Int} {n : Nat} {fs : List (List Int)} {f : List Int} {L : List (Nat × List Int)} (pl : PL p (fs.length + 1) (cols fs f n) L) (nk : fs.length ∉ L.map (·.1)) {ns : Vc} (hv : ∀ i, i < fs.length → ns i = cu (fun x => x.2 fs.length) (vecs L) i) {j : Nat} (hj : j < n) :
    Cg p (vec f j) (dot ns (col fs j) fs.length) := by
  have lt : Lot p (rowsOf (vecs L)) (col (fs ++ [f]) j) := (pl.lot _).mpr (.of ⟨colI (fs ++ [f]) j, List.mem_map.mpr ⟨j, List.mem_range.mpr hj, rfl⟩, funext fun i => vec_col⟩)
  have z := (lot_left pl.leads pl.ndv).mp lt fs.length
  have hp : ∀ x ∈ vecs L, x.1 < fs.length + 1 := fun x hx => by
    obtain ⟨y, hy, rfl⟩ := mem_vecs.mp hx
    exact pl.plc y hy
  have hne : ∀ x ∈ vecs L, x.1 ≠ fs.length := fun x hx e => by
    obtain ⟨y, hy, rfl⟩ := mem_vecs.mp hx
    exact nk (List.mem_map.mpr ⟨y, hy, e⟩)
  have e1 : own (col (fs ++ [f]) j) (vecs L) fs.length = dot ns (col fs j) fs.length := by
    rw [← own_as, ← dot_cu (a := fun x => x.2 fs.length) hp, dot_last, cu_out hne, Int.mul_zero, Int.add_zero, dot_comm]
    exact dot_ext _ (fun i hi => (hv i hi).symm) (fun i hi => col_app hi)
  have z' : Cg p (vec f j - dot ns (col fs j) fs.length) 0 := by
    rw [← e1, ← col_end (fs := fs) (f := f) (j := j)]
    exact z
  have a := z'.add (Cg.rfl' (a := dot ns (col fs j) fs.length))
  rw [Int.sub_add_cancel, Int.zero_add] at a
  exact a
theorem share_no {p : Int} {n : Nat} {fs : List (List Int)} {f : List Int} {L : List (Nat × List Int)} (p1 : 1 < p) (pl : PL p (fs.length + 1) (cols fs f n) L) (k : fs.length ∈ L.map (·.1)) : ¬ Lot p (spn fs) (vec f) := by
  intro h
  obtain ⟨a, ha⟩ := lot_coef h
  obtain ⟨x, hx, ex⟩ := List.mem_map.mp k
  have mx : (x.1, vec x.2) ∈ vecs L := mem_vecs.mpr ⟨x, hx, rfl⟩
  have lx : Lot p (spn (cols fs f n)) (vec x.2) := (pl.lot _).mp (.of ⟨_, mx, rfl⟩)
  have z := dot_lotL (n := fs.length + 1) (v := fun i => if i < fs.length then a i else -1) lx fun v hv => by
    obtain ⟨j, hj, rfl⟩ := mem_cols hv
    rw [dot_last, dot_ext fs.length (u := col (fs ++ [f]) j) (v := col fs j) (w := fun i => if i < fs.length then a i else -1) (x := a) (fun i hi => col_app hi) (fun i hi => by simp [hi]), col_end, dot_comm]
    have b := (ha j).symm.sub (Cg.rfl' (a := vec f j))
    rw [Int.sub_self] at b
    have e : dot a (col fs j) fs.length + vec f j * (if fs.length < fs.length then a fs.length else -1) = dot a (col fs j) fs.length - vec f j := by
      rw [if_neg (by omega)]
      omega
    show Cg p (dot a (col fs j) fs.length + vec f j * (if fs.length < fs.length then a fs.length else -1)) 0
    rw [e]
    exact b
  rw [dot_last] at z
  have e0 : Cg p (dot (vec x.2) (fun i => if i < fs.length then a i else -1) fs.length) 0 := by
    rw [dot_ext fs.length (u := vec x.2) (v := fun i => if i < fs.length then vec x.2 i else 0) (w := fun i => if i < fs.length then a i else -1) (x := a) (fun i hi => by simp [hi]) (fun i hi => by simp [hi])]
    have c := dot_eqv (p := p) fs.length (u := fun i => if i < fs.length then vec x.2 i else 0) (v := fun _ => 0) (w := a) (x := a) (fun i => by
      by_cases hi : i < fs.length
      · dsimp only
        rw [if_pos hi]
        exact pl.ahead _ mx i (by rw [ex]; exact hi)
      · dsimp only
        rw [if_neg hi]
        exact Cg.rfl') Eqv.refl
    rw [dot_zeroL] at c
    exact c
  have e1 : Cg p (vec x.2 fs.length) 1 := by
    have s := pl.leads.self _ mx
    rw [← ex]
    exact s
  have c := e0.symm.add (e1.symm.mul (Cg.rfl' (a := (-1 : Int))))
  have z2 : Cg p (0 + 1 * -1) 0 := by
    refine c.trans ?_
    have e : (if fs.length < fs.length then a fs.length else -1) = (-1 : Int) := if_neg (Nat.lt_irrefl _)
    rw [e] at z
    exact z
  obtain ⟨d, hd⟩ := z2
  exact one_zero p1 ⟨-d, by grind⟩
theorem comb_dot {j : Nat} : ∀ {ns : List Int} {rs : List (List (Int × Int))}, ns.length = rs.length → combV (pairV (ns.zip rs)) j = dot (vec ns) (col (rs.map flatR) j) rs.length
  | [], [], _ => rfl
  | [], _ :: _, h => by simp at h
  | _ :: _, [], h => by simp at h
  | n :: ns, r :: rs, h => by
    show n * vec (flatR r) j + combV (pairV (ns.zip rs)) j = vec (n :: ns) 0 * col (flatR r :: rs.map flatR) j 0 + dot (shf (vec (n :: ns))) (shf (col (flatR r :: rs.map flatR) j)) rs.length
    have e : shf (vec (n :: ns)) = vec ns := funext fun i => vec_succ
    rw [comb_dot (by simpa using h), shf_col, e]
    rfl
end Lin
/-! things by a hold and a table: stands, that they are fair, how many free numbers they have -/
namespace Lin
abbrev RowP := List (Int × Int)
theorem vec_flatP : ∀ (r : RowP) (k : Nat), vec (flatR r) (2 * k) = (r.getD k (0, 0)).1 ∧ vec (flatR r) (2 * k + 1) = (r.getD k (0, 0)).2
  | [], _ => ⟨rfl, rfl⟩
  | _ :: _, 0 => ⟨rfl, rfl⟩
  | u :: r, k + 1 => by
    have ih := vec_flatP r k
    rw [flat_cons, show 2 * (k + 1) + 1 = 2 * k + 1 + 1 + 1 by omega, show 2 * (k + 1) = 2 * k + 1 + 1 by omega, vec_succ, vec_succ, vec_succ, vec_succ]
    exact ih
theorem sum_range (u v : Vc) : ∀ m : Nat, ((List.range m).map fun k => u k * v k).sum = dot u v m
  | 0 => rfl
  | m + 1 => by
    rw [List.range_succ, List.map_append, List.sum_append, sum_range u v m, dot_last]
    simp
theorem dot_dotM {a b : Vc} {M : Nat → Vc} {n : Nat} : ∀ N : Nat, dot (fun k => dot a (fun i => M i k) N) b n = dot a (fun i => dot (M i) b n) N
  | 0 => dot_zeroL n b
  | N + 1 => by
    have e : (fun k => dot a (fun i => M i k) (N + 1)) = fun k => dot a (fun i => M i k) N + a N * M N k := funext fun k => dot_last N a _
    rw [e, dot_combL, dot_dotM N, dot_last]
theorem dot_cgN {p : Int} : ∀ (n : Nat) {u v w x : Vc}, (∀ i, i < n → Cg p (u i) (v i)) → (∀ i, i < n → Cg p (w i) (x i)) → Cg p (dot u w n) (dot v x n)
  | 0, _, _, _, _, _, _ => Cg.rfl'
  | n + 1, u, v, w, x, h, k => by
    rw [dot_last, dot_last]
    exact (dot_cgN n (fun i hi => h i (by omega)) fun i hi => k i (by omega)).add ((h n (by omega)).mul (k n (by omega)))
/-- a table that is its own mirror -/
def Sy (gs : List (List Int)) : Prop := ∀ i j, col gs j i = col gs i j
/-- what is told at post j -/
def toldV (gs : List (List Int)) (a : Vc) (m : Nat) : Vc := fun j => dot a (col gs j) m
/-- the stand by a hold, a table and held numbers -/
def stP (p : Int) (hs : List Int) (gs : List (List Int)) (ns : List Int) : RowP :=
  (List.range hs.length).map fun j => if vec hs j = 0 then (vec ns j, toldV gs (vec ns) hs.length j % p) else ((0 - toldV gs (vec ns) hs.length j % p) % p, vec ns j)
def unitL (m k : Nat) : List Int := (List.range m).map fun j => if j = k then 1 else 0
def unitsP (p : Int) (hs : List Int) (gs : List (List Int)) : List RowP := (List.range hs.length).map fun k => stP p hs gs (unitL hs.length k)
theorem st_len {p : Int} {hs : List Int} {gs : List (List Int)} {ns : List Int} : (stP p hs gs ns).length = hs.length := by
  unfold stP
  rw [List.length_map, List.length_range]
theorem st_get {p : Int} {hs : List Int} {gs : List (List Int)} {ns : List Int} {j : Nat} (h : j < hs.length) : (stP p hs gs ns)[j]? = some (if vec hs j = 0 then (vec ns j, toldV gs (vec ns) hs.length j % p) else ((0 - toldV gs (vec ns) hs.length j % p) % p, vec ns j)) := by
  unfold stP
  rw [List.getElem?_map, List.getElem?_range h]
  rfl
def InP (p : Int) (r : RowP) : Prop := ∀ u ∈ r, (0 ≤ u.1 ∧ u.1 < p) ∧ 0 ≤ u.2 ∧ u.2 < p
theorem st_in {p : Int} {hs : List Int} {gs : List (List Int)} {ns : List Int} (p0 : 0 < p) (rg : Rg p ns) : InP p (stP p hs gs ns) := fun u hu => by
  obtain ⟨j, _, rfl⟩ := List.mem_map.mp hu
  have a := rg.vec p0 j
  have b : ∀ x : Int, 0 ≤ x % p ∧ x % p < p := fun x => ⟨Int.emod_nonneg _ (by omega), Int.emod_lt_of_pos _ p0⟩
  split
  · exact ⟨a, b _⟩
  · exact ⟨b _, a⟩
theorem meets_range {p : Int} {F : Int × Int → Int × Int → Int} {G : Nat → Int} {f g : Nat → Int × Int} : ∀ m : Nat, (∀ j, j < m → Cg p (F (f j) (g j)) (G j)) → Cg p (List.zipWith F ((List.range m).map f) ((List.range m).map g)).sum ((List.range m).map G).sum
  | 0, _ => Cg.rfl'
  | m + 1, h => by
    rw [List.range_succ, List.map_append, List.map_append, List.map_append, List.zipWith_append (by simp), List.sum_append, List.sum_append]
    refine (meets_range m fun j hj => h j (by omega)).add ?_
    have a := h m (by omega)
    simpa using a
theorem sum_sub (u v a b : Vc) : ∀ m : Nat, ((List.range m).map fun k => u k * v k - a k * b k).sum = dot u v m - dot a b m
  | 0 => rfl
  | m + 1 => by
    rw [List.range_succ, List.map_append, List.sum_append, sum_sub u v a b m, dot_last, dot_last]
    simp
    omega
/-- two stands meet with 0 -/
theorem st_fair {p : Int} {hs : List Int} {gs : List (List Int)} {ns ms : List Int} (sy : Sy gs) : Cg p (List.zipWith (fun u v => u.1 * v.2 - v.1 * u.2) (stP p hs gs ns) (stP p hs gs ms)).sum 0 := by
  have key := meets_range (p := p) (F := fun u v : Int × Int => u.1 * v.2 - v.1 * u.2) (G := fun j => vec ns j * toldV gs (vec ms) hs.length j - vec ms j * toldV gs (vec ns) hs.length j) (f := fun j => if vec hs j = 0 then (vec ns j, toldV gs (vec ns) hs.length j % p) else ((0 - toldV gs (vec ns) hs.length j % p) % p, vec ns j)) (g := fun j => if vec hs j = 0 then (vec ms j, toldV gs (vec ms) hs.length j % p) else ((0 - toldV gs (vec ms) hs.length j % p) % p, vec ms j)) hs.length fun j _ => by
    have c1 := Cg.mod (p := p) (toldV gs (vec ns) hs.length j)
    have c2 := Cg.mod (p := p) (toldV gs (vec ms) hs.length j)
    split
    · exact ((Cg.rfl' (a := vec ns j)).mul c2).sub ((Cg.rfl' (a := vec ms j)).mul c1)
    · have d1 := (Cg.mod (p := p) (0 - toldV gs (vec ns) hs.length j % p)).trans ((Cg.rfl' (a := 0)).sub c1)
      have d2 := (Cg.mod (p := p) (0 - toldV gs (vec ms) hs.length j % p)).trans ((Cg.rfl' (a := 0)).sub c2)
      have e := (d1.mul (Cg.rfl' (a := vec ms j))).sub (d2.mul (Cg.rfl' (a := vec ns j)))
      have z : (0 - toldV gs (vec ns) hs.length j) * vec ms j - (0 - toldV gs (vec ms) hs.length j) * vec ns j = vec ns j * toldV gs (vec ms) hs.length j - vec ms j * toldV gs (vec ns) hs.length j := by grind
      rw [z] at e
      exact e
  refine key.trans ?_
  rw [sum_sub]
  have x : dot (vec ms) (toldV gs (vec ns) hs.length) hs.length = dot (vec ns) (toldV gs (vec ms) hs.length) hs.length := by
    rw [dot_comm]
    have e := dot_dotM (a := vec ns) (b := vec ms) (M := fun i k => col gs k i) (n := hs.length) hs.length
    refine e.trans ?_
    congr 1
    funext i
    have e2 : (fun k => col gs k i) = col gs i := funext fun k => sy i k
    rw [e2, dot_comm]
    rfl
  rw [x]
  exact ⟨0, by omega⟩
theorem unit_at {m k j : Nat} : vec (unitL m k) j = if j = k ∧ j < m then 1 else 0 := by
  show (unitL m k).getD j 0 = _
  unfold unitL
  rw [List.getD_eq_getElem?_getD, List.getElem?_map]
  by_cases h : j < m
  · rw [List.getElem?_range h]
    by_cases e : j = k
    · rw [if_pos ⟨e, h⟩]
      show (if j = k then (1 : Int) else 0) = 1
      rw [if_pos e]
    · rw [if_neg (fun z => e z.1)]
      show (if j = k then (1 : Int) else 0) = 0
      rw [if_neg e]
  · rw [List.getElem?_eq_none (by simpa using h)]
    rw [if_neg (fun z => h z.2)]
    rfl
theorem unit_rg {p : Int} {m k : Nat} (p1 : 1 < p) : Rg p (unitL m k) := fun u hu => by
  obtain ⟨j, _, rfl⟩ := List.mem_map.mp hu
  split <;> omega
theorem unit_len {m k : Nat} : (unitL m k).length = m := by
  unfold unitL
  rw [List.length_map, List.length_range]
/-- the place of post k's held number -/
def plc (hs : List Int) (k : Nat) : Nat := if vec hs k = 0 then 2 * k else 2 * k + 1
/-- a stand's held number -/
theorem st_held {p : Int} {hs : List Int} {gs : List (List Int)} {ns : List Int} {k : Nat} (h : k < hs.length) : vec (flatR (stP p hs gs ns)) (plc hs k) = vec ns k := by
  obtain ⟨a, b⟩ := vec_flatP (stP p hs gs ns) k
  have e : (stP p hs gs ns).getD k (0, 0) = if vec hs k = 0 then (vec ns k, toldV gs (vec ns) hs.length k % p) else ((0 - toldV gs (vec ns) hs.length k % p) % p, vec ns k) := by
    rw [List.getD_eq_getElem?_getD, st_get h]
    rfl
  rw [e] at a b
  unfold plc
  split
  · rename_i z
    rw [if_pos z] at a
    exact a
  · rename_i z
    rw [if_neg z] at b
    exact b
theorem units_get {p : Int} {hs : List Int} {gs : List (List Int)} {k : Nat} (h : k < hs.length) : (unitsP p hs gs)[k]? = some (stP p hs gs (unitL hs.length k)) := by
  unfold unitsP
  rw [List.getElem?_map, List.getElem?_range h]
  rfl
theorem units_len {p : Int} {hs : List Int} {gs : List (List Int)} : (unitsP p hs gs).length = hs.length := by
  unfold unitsP
  rw [List.length_map, List.length_range]
theorem units_fit {p : Int} {hs : List Int} {gs : List (List Int)} (p1 : 1 < p) : ∀ r ∈ unitsP p hs gs, InP p r ∧ r.length = hs.length := fun r hr => by
  obtain ⟨k, _, rfl⟩ := List.mem_map.mp hr
  exact ⟨st_in (by omega) (unit_rg p1), st_len⟩
theorem units_fresh {p : Int} {hs : List Int} {gs : List (List Int)} (p1 : 1 < p) : ∀ m, m ≤ hs.length → Fresh p (((unitsP p hs gs).take m).map flatR)
  | 0, _ => by
    rw [List.take_zero]
    exact .nil
  | m + 1, h => by
    have ih := units_fresh (p := p) (hs := hs) (gs := gs) p1 m (by omega)
    have e := units_get (p := p) (gs := gs) (hs := hs) (k := m) (by omega)
    rw [List.take_add_one, e, List.map_append]
    refine .snoc (plc hs m) ih (fun f hf => ?_) fun z => ?_
    · obtain ⟨r, hr, rfl⟩ := List.mem_map.mp hf
      obtain ⟨k, hk⟩ := List.mem_iff_getElem?.mp hr
      have hkm : k < m := by
        have := (List.getElem?_eq_some_iff.mp hk).1
        rw [List.length_take] at this
        omega
      rw [List.getElem?_take, if_pos hkm, units_get (p := p) (hs := hs) (gs := gs) (k := k) (by omega)] at hk
      cases hk
      rw [st_held (hs := hs) (k := m) (by omega), unit_at, if_neg (by omega)]
      exact Cg.rfl'
    · rw [st_held (hs := hs) (k := m) (by omega), unit_at, if_pos ⟨rfl, by omega⟩] at z
      have := cg_eq (p := p) ⟨by omega, p1⟩ ⟨Int.le_refl 0, by omega⟩ z
      omega
theorem units_fair {p : Int} {hs : List Int} {gs : List (List Int)} (sy : Sy gs) : ∀ r ∈ unitsP p hs gs, ∀ s ∈ unitsP p hs gs, Cg p (List.zipWith (fun u v => u.1 * v.2 - v.1 * u.2) r s).sum 0 := fun r hr s hs' => by
  obtain ⟨k, _, rfl⟩ := List.mem_map.mp hr
  obtain ⟨j, _, rfl⟩ := List.mem_map.mp hs'
  exact st_fair sy
/-- rows of one lot whose spanning rows meet with 0 meet with 0 -/
theorem lot_fair {p : Int} {m : Nat} {rs : List RowP} (lr : ∀ r ∈ rs, r.length = m) (h : ∀ r ∈ rs, ∀ s ∈ rs, Cg p (List.zipWith (fun u v => u.1 * v.2 - v.1 * u.2) r s).sum 0) {r s : RowP} (l1 : r.length = m) (l2 : s.length = m) (h1 : Lot p (spn (rs.map flatR)) (vec (flatR r))) (h2 : Lot p (spn (rs.map flatR)) (vec (flatR s))) : Cg p (List.zipWith (fun u v => u.1 * v.2 - v.1 * u.2) r s).sum 0 := by
  have met : ∀ r s : RowP, r.length = m → s.length = m → (List.zipWith (fun u v => u.1 * v.2 - v.1 * u.2) r s).sum = dot (crs (vec (flatR r))) (vec (flatR s)) (2 * m) := fun r s a b => by
    have e := meet_dot (r := r) (s := s) (by rw [a, b])
    rw [a] at e
    exact e
  have half : ∀ r ∈ rs, Cg p (dot (crs (vec (flatR r))) (vec (flatR s)) (2 * m)) 0 := fun r hr => dot_lotR h2 fun v hv => by
    obtain ⟨f, hf, rfl⟩ := hv
    obtain ⟨t, ht, rfl⟩ := List.mem_map.mp hf
    rw [← met r t (lr r hr) (lr t ht)]
    exact h r hr t ht
  rw [met r s l1 l2, dot_crs]
  have z : Cg p (dot (crs (vec (flatR s))) (vec (flatR r)) (2 * m)) 0 := dot_lotR h1 fun v hv => by
    obtain ⟨f, hf, rfl⟩ := hv
    obtain ⟨t, ht, rfl⟩ := List.mem_map.mp hf
    rw [dot_crs]
    have a := (Cg.rfl' (p := p) (a := 0)).sub (half t ht)
    have e : (0 : Int) - dot (crs (vec (flatR t))) (vec (flatR s)) (2 * m) = -dot (crs (vec (flatR t))) (vec (flatR s)) (2 * m) := by omega
    rw [e, Int.sub_zero] at a
    exact a
  have a := (Cg.rfl' (p := p) (a := 0)).sub z
  have e : (0 : Int) - dot (crs (vec (flatR s))) (vec (flatR r)) (2 * m) = -dot (crs (vec (flatR s))) (vec (flatR r)) (2 * m) := by omega
  rw [e, Int.sub_zero] at a
  exact a
/-- so many plain rows -/
theorem units_plain {p : Int} {hs : List Int} {gs : List (List Int)} {fs : List (List Int)} {L : List (Nat × List Int)} (p1 : 1 < p) (inv : ∀ u, 0 < u → u < p → ∃ c, c * u % p = 1) (pl : PL p (2 * hs.length) fs L) (e : ∀ u, Lot p (spn fs) u ↔ Lot p (spn ((unitsP p hs gs).map flatR)) u) : L.length = hs.length := by
  have fr := units_fresh (p := p) (hs := hs) (gs := gs) p1 hs.length (Nat.le_refl _)
  have tk : (unitsP p hs gs).take hs.length = unitsP p hs gs := List.take_of_length_le (by rw [units_len]; exact Nat.le_refl _)
  rw [tk] at fr
  obtain ⟨M, pm, lm⟩ := fr.pl (n := 2 * hs.length) p1 inv fun f hf => by
    obtain ⟨r, hr, rfl⟩ := List.mem_map.mp hf
    obtain ⟨i, l⟩ := units_fit p1 r hr
    refine ⟨by rw [flat_len, l], fun u hu => ?_⟩
    obtain ⟨v, hv, hm⟩ := List.mem_flatMap.mp hu
    have := i v hv
    have m : u = v.1 ∨ u = v.2 := by simpa using hm
    rcases m with e | e
    · rw [e]; exact this.1
    · rw [e]; exact this.2
  rw [PL.len_eq p1 pl pm e, lm, List.length_map, units_len]
end Lin
/-! rows by the sides of a hold; the table of a thing by a hold; stands as sums -/
namespace Lin
theorem vec_app (a b : List Int) (i : Nat) : vec (a ++ b) i = if i < a.length then vec a i else vec b (i - a.length) := by
  show (a ++ b).getD i 0 = _
  rw [List.getD_eq_getElem?_getD]
  by_cases h : i < a.length
  · rw [if_pos h, List.getElem?_append_left h]
    show _ = a.getD i 0
    rw [List.getD_eq_getElem?_getD]
  · rw [if_neg h, List.getElem?_append_right (by omega)]
    show _ = b.getD (i - a.length) 0
    rw [List.getD_eq_getElem?_getD]
def sdP (p : Int) (hs : List Int) (r : RowP) : List Int := List.zipWith (fun h u => if h = 0 then u.1 else u.2) hs r ++ List.zipWith (fun h u => if h = 0 then u.2 else -u.1 % p) hs r
def sdV (hs : List Int) (v : Vc) : Vc := fun i => if i < hs.length then v (plc hs i) else if i < 2 * hs.length then (if vec hs (i - hs.length) = 0 then v (2 * (i - hs.length) + 1) else -v (2 * (i - hs.length))) else 0
theorem sd_len {p : Int} {hs : List Int} {r : RowP} (h : r.length = hs.length) : (sdP p hs r).length = 2 * hs.length := by
  unfold sdP
  rw [List.length_append, List.length_zipWith, List.length_zipWith]
  omega
theorem zip_vec {f : Int → Int × Int → Int} {hs : List Int} {r : RowP} {j : Nat} (h : r.length = hs.length) (hj : j < hs.length) : vec (List.zipWith f hs r) j = f (vec hs j) (r.getD j (0, 0)) := by
  have e1 : hs[j]? = some (vec hs j) := by
    have e := List.getElem?_eq_getElem hj
    rw [e, vec_some e]
  have e2 : r[j]? = some (r.getD j (0, 0)) := by
    rw [List.getD_eq_getElem?_getD, List.getElem?_eq_getElem (by omega)]
    rfl
  refine vec_some ?_
  rw [List.getElem?_zipWith, e1, e2]
theorem sd_vec {p : Int} {hs : List Int} {r : RowP} (h : r.length = hs.length) : Eqv p (vec (sdP p hs r)) (sdV hs (vec (flatR r))) := fun i => by
  unfold sdP sdV
  rw [vec_app, List.length_zipWith, h, Nat.min_self]
  by_cases h1 : i < hs.length
  · rw [if_pos h1, if_pos h1, zip_vec h h1]
    obtain ⟨a, b⟩ := vec_flatP r i
    unfold plc
    split
    · rw [a]
      exact Cg.rfl'
    · rw [b]
      exact Cg.rfl'
  · rw [if_neg h1, if_neg h1]
    by_cases h2 : i < 2 * hs.length
    · rw [if_pos h2, zip_vec h (by omega)]
      obtain ⟨a, b⟩ := vec_flatP r (i - hs.length)
      split
      · rw [b]
        exact Cg.rfl'
      · rw [a]
        exact Cg.mod _
    · rw [if_neg h2, vec_out (by rw [List.length_zipWith]; omega)]
      exact Cg.rfl'
theorem sd_rg {p : Int} {hs : List Int} {r : RowP} (p0 : 0 < p) (h : InP p r) : Rg p (sdP p hs r) := fun u hu => by
  unfold sdP at hu
  have b : ∀ x : Int, 0 ≤ x % p ∧ x % p < p := fun x => ⟨Int.emod_nonneg _ (by omega), Int.emod_lt_of_pos _ p0⟩
  rcases List.mem_append.mp hu with m | m
  · obtain ⟨i, hi, rfl⟩ := List.mem_iff_getElem.mp m
    rw [List.getElem_zipWith]
    have := h _ (List.getElem_mem (l := r) (n := i) (by rw [List.length_zipWith] at hi; omega))
    split
    · exact this.1
    · exact this.2
  · obtain ⟨i, hi, rfl⟩ := List.mem_iff_getElem.mp m
    rw [List.getElem_zipWith]
    have := h _ (List.getElem_mem (l := r) (n := i) (by rw [List.length_zipWith] at hi; omega))
    split
    · exact this.2
    · exact b _
theorem sd_comb {hs : List Int} {u v : Vc} {c : Int} (i : Nat) : sdV hs (fun j => u j + c * v j) i = sdV hs u i + c * sdV hs v i := by
  unfold sdV
  split
  · rfl
  · split
    · split
      · rfl
      · grind
    · grind
theorem sd_eqv {p : Int} {hs : List Int} {u v : Vc} (h : Eqv p u v) : Eqv p (sdV hs u) (sdV hs v) := fun i => by
  unfold sdV
  split
  · exact h _
  · split
    · split
      · exact h _
      · have a := (Cg.rfl' (p := p) (a := 0)).sub (h (2 * (i - hs.length)))
        rw [Int.zero_sub, Int.zero_sub] at a
        exact a
    · exact Cg.rfl'
theorem lot_sd {p : Int} {hs : List Int} {R S : Vc → Prop} {u : Vc} (h : Lot p R u) (k : ∀ v, R v → Lot p S (sdV hs v)) : Lot p S (sdV hs u) := by
  induction h with
  | zero =>
    refine .eqv .zero fun i => ?_
    · have e : sdV hs (fun _ => 0) i = 0 := by
        unfold sdV
        split
        · rfl
        · split
          · split <;> rfl
          · rfl
      rw [e]
      exact Cg.rfl'
  | add c _ r ih =>
    refine .eqv (Lot.comb c ih (k _ r)) fun i => ?_
    rw [sd_comb]
    exact Cg.rfl'
  | eqv _ e ih => exact .eqv ih (sd_eqv e)
theorem span_sd {p : Int} {hs : List Int} {ss us : List RowP} (ls : ∀ r ∈ ss, r.length = hs.length) (lu : ∀ r ∈ us, r.length = hs.length) (h : ∀ u, Lot p (spn (ss.map flatR)) u ↔ Lot p (spn (us.map flatR)) u) (u : Vc) : Lot p (spn (ss.map (sdP p hs))) u ↔ Lot p (spn (us.map (sdP p hs))) u := by
  have one : ∀ {xs ys : List RowP}, (∀ r ∈ xs, r.length = hs.length) → (∀ r ∈ ys, r.length = hs.length) → (∀ u, Lot p (spn (xs.map flatR)) u → Lot p (spn (ys.map flatR)) u) → ∀ v, spn (xs.map (sdP p hs)) v → Lot p (spn (ys.map (sdP p hs))) v := by
    intro xs ys lx ly hh v hv
    obtain ⟨f, hf, rfl⟩ := hv
    obtain ⟨r, hr, rfl⟩ := List.mem_map.mp hf
    have a := hh _ (.of ⟨flatR r, List.mem_map.mpr ⟨r, hr, rfl⟩, rfl⟩)
    refine .eqv (lot_sd (hs := hs) a fun w hw => ?_) (sd_vec (lx r hr)).symm
    obtain ⟨f, hf, rfl⟩ := hw
    obtain ⟨s, hs', rfl⟩ := List.mem_map.mp hf
    exact .eqv (.of ⟨sdP p hs s, List.mem_map.mpr ⟨s, hs', rfl⟩, rfl⟩) (sd_vec (ly s hs'))
  exact Lot.iff (one ls lu fun u => (h u).mp) (one lu ls fun u => (h u).mpr) u
/-- what is told at all posts -/
def toldL (p : Int) (gs : List (List Int)) (ns : List Int) (m : Nat) : List Int := (List.range m).map fun j => toldV gs (vec ns) m j % p
theorem sd_st {p : Int} {hs : List Int} {gs : List (List Int)} {ns : List Int} (p0 : 0 < p) (hl : ns.length = hs.length) : sdP p hs (stP p hs gs ns) = ns ++ toldL p gs ns hs.length := by
  unfold sdP
  congr 1
  · apply List.ext_getElem?
    intro j
    rw [List.getElem?_zipWith]
    by_cases h : j < hs.length
    · have e1 := List.getElem?_eq_getElem h
      have en := List.getElem?_eq_getElem (l := ns) (i := j) (by omega)
      rw [st_get h, e1, en]
      show some (if hs[j] = 0 then _ else _) = some ns[j]
      rw [← vec_some e1, ← vec_some en]
      split <;> rfl
    · rw [List.getElem?_eq_none (l := hs) (by omega), List.getElem?_eq_none (l := ns) (by omega)]
  · apply List.ext_getElem?
    intro j
    rw [List.getElem?_zipWith]
    by_cases h : j < hs.length
    · have e1 := List.getElem?_eq_getElem h
      rw [st_get h, e1]
      unfold toldL
      rw [List.getElem?_map, List.getElem?_range h]
      show some (if hs[j] = 0 then _ else _) = some _
      rw [← vec_some e1]
      split
      · rfl
      · dsimp only
        congr 1
        have b : ∀ x : Int, 0 ≤ x % p ∧ x % p < p := fun x => ⟨Int.emod_nonneg _ (by omega), Int.emod_lt_of_pos _ p0⟩
        refine cg_eq (b _) (b _) ?_
        have c := (Cg.mod (p := p) (0 - toldV gs (vec ns) hs.length j % p))
        have d := (Cg.mod (p := p) (-((0 - toldV gs (vec ns) hs.length j % p) % p))).trans (by
          have a := (Cg.rfl' (p := p) (a := 0)).sub c
          rw [Int.zero_sub] at a
          exact a)
        have e : (0 : Int) - (0 - toldV gs (vec ns) hs.length j % p) = toldV gs (vec ns) hs.length j % p := by omega
        rw [e] at d
        exact d
    · rw [List.getElem?_eq_none (l := hs) (by omega)]
      exact (List.getElem?_eq_none (by unfold toldL; rw [List.length_map, List.length_range]; omega)).symm
theorem dot_unit {m k : Nat} {v : Vc} (h : k < m) : dot (vec (unitL m k)) v m = v k := by
  have e := dot_ext m (u := vec (unitL m k)) (v := un k) (w := v) (x := v) (fun i hi => by
    rw [unit_at]
    show _ = if i = k then 1 else 0
    by_cases z : i = k
    · rw [if_pos ⟨z, hi⟩, if_pos z]
    · rw [if_neg (fun w => z w.1), if_neg z]) fun _ _ => rfl
  rw [e, dot_comm, dot_un m k v h]
theorem told_unit {p : Int} {gs : List (List Int)} {m k : Nat} {g : List Int} (h : k < m) (eg : gs[k]? = some g) (gl : g.length = m) (rg : Rg p g) (p0 : 0 < p) : toldL p gs (unitL m k) m = g := by
  unfold toldL
  apply List.ext_getElem?
  intro j
  rw [List.getElem?_map]
  by_cases hj : j < m
  · rw [List.getElem?_range hj]
    have e : col gs j k = vec g j := by
      unfold col
      rw [List.getD_eq_getElem?_getD, eg]
      rfl
    have e2 : g[j]? = some (vec g j) := by
      have e := List.getElem?_eq_getElem (l := g) (i := j) (by omega)
      rw [e, vec_some e]
    show some (toldV gs (vec (unitL m k)) m j % p) = _
    unfold toldV
    rw [dot_unit h, e, e2]
    have := rg.vec p0 j
    rw [Int.emod_eq_of_lt this.1 this.2]
  · rw [List.getElem?_eq_none (by simpa using hj), List.getElem?_eq_none (by omega)]
    rfl
/-- the leads of a thing by a hold that stands: the numbers held alone, then the table -/
theorem lead_table {p : Int} {hs : List Int} {gs : List (List Int)} {fs : List (List Int)} {L : List (Nat × List Int)} (p1 : 1 < p) (gl : gs.length = hs.length) (gok : ∀ g ∈ gs, g.length = hs.length ∧ Rg p g) (pl : PL p (2 * hs.length) fs L) (up : Up L)
    (e : ∀ u, Lot p (spn fs) u ↔ Lot p (spn ((unitsP p hs gs).map (sdP p hs))) u) : L = (List.range hs.length).zip ((List.range hs.length).map fun k => unitL hs.length k ++ gs.getD k []) := by
  have p0 : 0 < p := by omega
  have eu : (unitsP p hs gs).map (sdP p hs) = (List.range hs.length).map fun k => unitL hs.length k ++ gs.getD k [] := by
    unfold unitsP
    rw [List.map_map]
    apply List.map_congr_left
    intro k hk
    have hk' := List.mem_range.mp hk
    have eg : gs[k]? = some (gs.getD k []) := by
      rw [List.getD_eq_getElem?_getD, List.getElem?_eq_getElem (by omega)]
      rfl
    have ok := gok _ (List.mem_of_getElem? eg)
    show sdP p hs (stP p hs gs (unitL hs.length k)) = _
    rw [sd_st p0 unit_len, told_unit hk' eg ok.1 ok.2 p0]
  have pln : Pln p (2 * hs.length) (List.range hs.length) ((List.range hs.length).map fun k => unitL hs.length k ++ gs.getD k []) := by
    refine ⟨by rw [List.length_map], List.pairwise_lt_range, fun q hq => by have := List.mem_range.mp hq; omega, fun i q f hi hf => ?_⟩
    have hil : i < hs.length := by
      have := (List.getElem?_eq_some_iff.mp hi).1
      simpa using this
    rw [List.getElem?_range hil] at hi
    cases hi
    rw [List.getElem?_map, List.getElem?_range hil] at hf
    cases hf
    have eg : gs[i]? = some (gs.getD i []) := by
      rw [List.getD_eq_getElem?_getD, List.getElem?_eq_getElem (by omega)]
      rfl
    have ok := gok _ (List.mem_of_getElem? eg)
    have at_ : ∀ o, o < hs.length → vec (unitL hs.length i ++ gs.getD i []) o = if o = i then 1 else 0 := fun o ho => by
      rw [vec_app, unit_len, if_pos ho, unit_at]
      by_cases z : o = i
      · rw [if_pos ⟨z, ho⟩, if_pos z]
      · rw [if_neg (fun w => z w.1), if_neg z]
    refine ⟨by rw [List.length_append, unit_len, ok.1]; omega, fun u hu => ?_, fun j hj => by rw [at_ j (by omega), if_neg (by omega)], by rw [at_ i hil, if_pos rfl], fun o ho hlt => by rw [at_ o (List.mem_range.mp ho), if_neg (by omega)]⟩
    rcases List.mem_append.mp hu with m | m
    · exact unit_rg p1 u m
    · exact ok.2 u m
  obtain ⟨h1, h2⟩ := pln.pl
  refine pl.one p1 h1 up h2 fun u => ?_
  rw [← eu]
  exact e u
/-! stands as sums of the stands of 1 held alone -/
def stV (hs : List Int) (gs : List (List Int)) (m : Nat) (a : Vc) : Vc := fun i => if i < 2 * m then (if (vec hs (i / 2) = 0) = (i % 2 = 0) then a (i / 2) else if i % 2 = 0 then -toldV gs a m (i / 2) else toldV gs a m (i / 2)) else 0
theorem st_vec {p : Int} {hs : List Int} {gs : List (List Int)} {ns : List Int} : Eqv p (vec (flatR (stP p hs gs ns))) (stV hs gs hs.length (vec ns)) := fun i => by
  unfold stV
  by_cases h : i < 2 * hs.length
  · rw [if_pos h]
    have hj : i / 2 < hs.length := by omega
    obtain ⟨a, b⟩ := vec_flatP (stP p hs gs ns) (i / 2)
    have e : (stP p hs gs ns).getD (i / 2) (0, 0) = if vec hs (i / 2) = 0 then (vec ns (i / 2), toldV gs (vec ns) hs.length (i / 2) % p) else ((0 - toldV gs (vec ns) hs.length (i / 2) % p) % p, vec ns (i / 2)) := by
      rw [List.getD_eq_getElem?_getD, st_get hj]
      rfl
    rw [e] at a b
    have md := Cg.mod (p := p) (toldV gs (vec ns) hs.length (i / 2))
    by_cases z : vec hs (i / 2) = 0
    · rw [if_pos z] at a b
      by_cases q : i % 2 = 0
      · rw [if_pos (by simp [z, q])]
        have ei : 2 * (i / 2) = i := by omega
        rw [ei] at a
        rw [a]
        exact Cg.rfl'
      · rw [if_neg (by simp [z, q]), if_neg q]
        have ei : 2 * (i / 2) + 1 = i := by omega
        rw [ei] at b
        rw [b]
        exact md
    · rw [if_neg z] at a b
      by_cases q : i % 2 = 0
      · rw [if_neg (by simp [z, q]), if_pos q]
        have ei : 2 * (i / 2) = i := by omega
        rw [ei] at a
        rw [a]
        have c := (Cg.mod (p := p) (0 - toldV gs (vec ns) hs.length (i / 2) % p)).trans ((Cg.rfl' (a := 0)).sub md)
        rw [Int.zero_sub (toldV gs (vec ns) hs.length (i / 2))] at c
        exact c
      · rw [if_pos (by simp [z, q])]
        have ei : 2 * (i / 2) + 1 = i := by omega
        rw [ei] at b
        rw [b]
        exact Cg.rfl'
  · rw [if_neg h, vec_out (by rw [flat_len, st_len]; omega)]
    exact Cg.rfl'
theorem dot_neg : ∀ (n : Nat) (a f : Vc), dot a (fun k => -f k) n = -dot a f n
  | 0, _, _ => rfl
  | n + 1, a, f => by
    rw [dot_last, dot_last, dot_neg n a f]
    grind
theorem st_dot {hs : List Int} {gs : List (List Int)} {m : Nat} {a : Vc} {i : Nat} : dot a (fun k => stV hs gs m (vec (unitL m k)) i) m = stV hs gs m a i := by
  have td : ∀ j, dot a (fun k => toldV gs (vec (unitL m k)) m j) m = toldV gs a m j := fun j => by
    unfold toldV
    exact dot_ext m (fun _ _ => rfl) fun k hk => dot_unit hk
  unfold stV
  by_cases h : i < 2 * m
  · have hj : i / 2 < m := by omega
    simp only [if_pos h]
    by_cases z : (vec hs (i / 2) = 0) = (i % 2 = 0)
    · simp only [if_pos z]
      have e := dot_ext m (u := a) (v := a) (w := fun k => vec (unitL m k) (i / 2)) (x := un (i / 2)) (fun _ _ => rfl) fun k hk => by
        rw [unit_at]
        show _ = if k = i / 2 then 1 else 0
        by_cases q : i / 2 = k
        · rw [if_pos ⟨q, hj⟩, if_pos q.symm]
        · rw [if_neg (fun w => q w.1), if_neg (fun w => q w.symm)]
      rw [e, dot_un m (i / 2) a hj]
    · simp only [if_neg z]
      by_cases q : i % 2 = 0
      · simp only [if_pos q]
        rw [dot_neg, td]
      · simp only [if_neg q]
        exact td _
  · simp only [if_neg h]
    exact dot_zero m a
theorem in_sumP {p : Int} (p0 : 0 < p) : ∀ (l : List (Int × RowP)) (acc : RowP), InP p acc → InP p (sumP p acc l)
  | [], _, h => h
  | x :: l, acc, _ => in_sumP p0 l _ fun u hu => by
    unfold addP at hu
    obtain ⟨i, hi, rfl⟩ := List.mem_iff_getElem.mp hu
    rw [List.getElem_zipWith]
    exact ⟨⟨Int.emod_nonneg _ (by omega), Int.emod_lt_of_pos _ p0⟩, Int.emod_nonneg _ (by omega), Int.emod_lt_of_pos _ p0⟩
theorem flat_rgP {p : Int} {r : RowP} (h : InP p r) : Rg p (flatR r) := fun u hu => by
  obtain ⟨v, hv, hm⟩ := List.mem_flatMap.mp hu
  have := h v hv
  have m : u = v.1 ∨ u = v.2 := by simpa using hm
  rcases m with e | e
  · rw [e]; exact this.1
  · rw [e]; exact this.2
theorem stand_sum {p : Int} {hs : List Int} {gs : List (List Int)} {ns : List Int} (p1 : 1 < p) (hl : ns.length = hs.length) (rg : Rg p ns) : sumP p (List.replicate hs.length (0, 0)) (ns.zip (unitsP p hs gs)) = stP p hs gs ns := by
  have p0 : 0 < p := by omega
  have lu : ∀ x ∈ ns.zip (unitsP p hs gs), x.2.length = hs.length := fun x hx => (units_fit p1 _ (List.of_mem_zip hx).2).2
  have ul := units_len (p := p) (hs := hs) (gs := gs)
  apply flat_inj
  refine list_eq p0 (by rw [flat_len, flat_len, sum_lenP _ lu (by simp), st_len]) (flat_rgP (in_sumP p0 _ _ fun u hu => ?_)) (flat_rgP (st_in p0 rg)) fun j => ?_
  · rw [(List.mem_replicate.mp hu).2]
    exact ⟨⟨Int.le_refl 0, p0⟩, Int.le_refl 0, p0⟩
  have b := vec_sumP (p := p) (ns.zip (unitsP p hs gs)) (acc := List.replicate hs.length ((0 : Int), (0 : Int))) lu (by simp) j
  dsimp only at b
  rw [vec_noP, Int.zero_add, comb_dot (by rw [ul]; exact hl), ul] at b
  refine b.trans (Cg.trans ?_ (st_vec (ns := ns) j).symm)
  rw [← st_dot]
  refine dot_cgN hs.length (fun _ _ => Cg.rfl') fun k hk => ?_
  have e : col ((unitsP p hs gs).map flatR) j k = vec (flatR (stP p hs gs (unitL hs.length k))) j := by
    unfold col
    rw [List.getD_eq_getElem?_getD, List.getElem?_map, units_get hk]
    rfl
  rw [e]
  exact st_vec j
end Lin
set_option linter.all false
/-! sorted(t) of a tuple of ints -/
namespace So
open PySem PySem.Spec PyProof.Rows L2
section
variable {P : Program} {w : World} {A : Around} {E : Value → Shared → Prop} {s : Shared}
abbrev copied (h : Heap) (vs : List Value) : Heap := (h.push (seqObj "list" #[] 0)).update h.objs.size (Obj.mapSeq (· ++ vs.toArray))
set_option maxHeartbeats 2000000 in
theorem collect_tup {t : Addr} {o : Obj} {n : Nat} {vs : List Value} {Q : List Value → Shared → Prop} (ho : s.heap.get? t = some o) (hc : o.cls = .type "tuple") (hd : o.data = .seq vs.toArray n) (hz : vs.length ≤ sizeLine) (q : Q vs { s with heap := copied s.heap vs }) : wpAny (model P w) A (collect (.ref t)) Q E s := by
  unfold collect
  refine wpAny_bind (wpAny_runValue (codeAny_builtin entry_proto_collect' ?_))
  show wpAny (model P w) _ (do again (.builtin "list.__iadd__" ⟨[← newList [], .ref t], []⟩)) _ _ s
  refine wpAny_bind (wpAny_newList (wpAny_pure ⟨Code.quiet_builtin _ (by decide +kernel), codeAny_builtin entry_list_iadd' ?k⟩))
  case k =>
    show wpAny (model P w) _ (Builtin.List.listExtendWith (.ref s.heap.objs.size) (.ref t) (.ref s.heap.objs.size)) _ _ { s with heap := s.heap.push (seqObj "list" #[] 0) }
    unfold Builtin.List.listExtendWith
    have hp : (s.heap.push (seqObj "list" #[] 0)).get? t = some o := Heap.get?_push_of_some _ ho
    refine wpAny_bind (wpAny_typeOf (T := "tuple") ⟨o, hp, hc⟩ ?_)
    have e2 : (Value.type "tuple" == Value.type "tuple") = true := by rfl
    rw [if_pos (by rw [e2, Bool.or_true])]
    refine wpAny_bind (listItems_at hp hd ?_)
    refine wpAny_bind (listItems_at (xs := #[]) (n := 0) (Heap.get?_push_size _ rfl) rfl ?_)
    rw [if_neg (by simp)]
    have sz : (#[] ++ vs.toArray : Array Value).size ≤ sizeLine + 1 := by
      rw [Array.size_append, List.size_toArray]
      show 0 + vs.length ≤ _
      omega
    refine wpAny_bind (listUpdate_at (xs := #[]) (n := 0) (Heap.get?_push_size _ rfl) rfl ?_ (Nat.zero_le _) sz)
    refine wpAny_pure ?_
    show wpAny (model P w) A (do
        let o ← load s.heap.objs.size
        match o.data with
        | .seq xs _ => pure xs.toList
        | _ => unsupported "internal:collect") Q E { s with heap := copied s.heap vs }
    refine wpAny_bind (wpAny_load (get?_update_seq (Heap.get?_push_size _ rfl) _) ?_)
    show wpAny (model P w) A (pure ((#[] : Array Value) ++ vs.toArray).toList) Q E _
    have e3 : ((#[] : Array Value) ++ vs.toArray).toList = vs := by simp
    rw [e3]
    exact wpAny_pure q
set_option maxHeartbeats 2000000 in
theorem sorted_tup {t : Addr} {o : Obj} {n : Nat} {vs : List Value} {ns : List Int} {Q : Value → Shared → Prop} (ho : s.heap.get? t = some o) (hc : o.cls = .type "tuple") (hd : o.data = .seq vs.toArray n) (hz : vs.length ≤ sizeLine) (hI : IntsAre vs ns)
    (q : ∀ out : List Value, SrtO.Srtd SrtO.ltIv out → SrtO.Stb SrtO.ltIv out vs → Q (.ref (s.heap.objs.size + 1)) { s with heap := sortedAll s.heap vs out.toArray }) : wpAny (model P w) A (call (.builtin "sorted") [.ref t]) Q E s := by
  refine Calls.call_function_entry kind_sorted plain_sorted entry_sorted (args_sorted1 _) ?_
  unfold Builtin.«sorted»
  refine wpAny_bind (m := checkCount "sorted" 1 1 _) (wpAny_pure ?_)
  refine wpAny_bind (collect_tup ho hc hd hz ?_)
  refine wpAny_bind (wpAny_newList ?_ hz)
  have size1 : (copied s.heap vs).objs.size = s.heap.objs.size + 1 := by
    unfold copied
    rw [Heap.size_update, size_push']
  have newL : ((copied s.heap vs).push (seqObj "list" vs.toArray 0)).get? (s.heap.objs.size + 1) = some (seqObj "list" vs.toArray 0) := by
    rw [← size1]
    exact Heap.get?_push_size _ rfl
  show wpAny (model P w) _ _ _ _ { s with heap := (copied s.heap vs).push (seqObj "list" vs.toArray 0) }
  rw [size1]
  refine wpAny_bind (wpAny_holding (wpAny_call_entry slot_list_sort ⟨_, newL, rfl⟩ entry_list_sort (SrtO.list_sort_ord SrtO.swo_int newL hz (fun h2 => SrtO.ints_sortable hI h2) fun out hs hb => ⟨_, rfl, ?_⟩) (args_list_sort _)))
  exact wpAny_pure ⟨_, rfl, q out hs hb⟩
end
def rSortedTI (K : PySem.W.Frag) : List V → Hp → VK → Prop := fun vs H Q => ∃ (a : Addr) (ns : List Int), vs = [V.ref a] ∧ H a = some (.tup (ns.map V.int)) ∧ ∀ (ns' : List Int) (p : Addr), ns'.Perm ns → ns'.Pairwise (· ≤ ·) → H p = none → Q (.ref p) (upd H p (.lst (ns'.map V.int)))
section
variable {X : Cx}
theorem cr_sortedTI : CallR X (.builtin "sorted") (rSortedTI X.K) := by
  intro pins s σ H vs us Q I r h
  obtain ⟨a, ns, rfl, ha, q⟩ := h
  obtain ⟨hz, its, rv, o, ho, hc, n, hd⟩ := I.hok a _ ha
  rw [Vals.ref1 r]
  have hi := rv.ints
  refine sorted_tup ho hc hd (by rw [← rv.length]; exact hz) hi fun out h1 h2 => ?_
  obtain ⟨k1, k2, k3⟩ := SrtO.ints_out hi h1 h2
  obtain ⟨ep, he'⟩ := PyProof.Rows.sortedAll_at s.heap its out.toArray
  have hlen : ((out.map SrtO.iv).map V.int).length ≤ sizeLine := by
    rw [List.length_map, k2.length_eq]
    rwa [List.length_map] at hz
  exact ⟨.ref _, upd H (s.heap.objs.size + 1) (.lst ((out.map SrtO.iv).map V.int)), I.laid (t' := s.toks) (fun _ _ => PyProof.Rows.sortedAll_old) (Nat.le_succ _) ⟨hlen, out, ep, vals_of_ints k1, he'⟩, rfl, q _ _ k2 k3 (I.hok.fresh (Nat.le_succ _))⟩
end
end So
set_option linter.all false
/-! sorted(xs) of a list of data (tuples of tuples among them) -/
namespace Sd
open PySem PySem.Spec PyProof.Rows L2
section
variable {K : PySem.W.Frag} {H : Hp}
theorem dp_zip : ∀ {xs : List V} {ds : List PyData}, DpAll K H xs ds → xs.length = ds.length ∧ ∀ b ∈ xs.zip ds, Dp K H b.1 b.2
  | _, _, .nil => ⟨rfl, fun b hb => by cases hb⟩
  | _, _, .cons h t => by
    obtain ⟨e, r⟩ := dp_zip t
    refine ⟨congrArg Nat.succ e, fun b hb => ?_⟩
    rcases List.mem_cons.mp hb with rfl | hb
    · exact h
    · exact r b hb
theorem zip_dp : ∀ {bs : List (V × PyData)}, (∀ b ∈ bs, Dp K H b.1 b.2) → DpAll K H (bs.map (·.1)) (bs.map (·.2))
  | [], _ => .nil
  | b :: bs, h => .cons (h b (by simp)) (zip_dp fun c hc => h c (List.mem_cons_of_mem _ hc))
theorem each_zip : ∀ {xs : List V} {vs : List Value} {ds : List PyData}, Vals xs vs → xs.length = ds.length → PySem.W.EachIs (fun (v : Value) (b : V × PyData) => RelV b.1 v) vs (xs.zip ds)
  | _, _, [], .nil, _ => .nil
  | _, _, _ :: _, .nil, e => by simp at e
  | _, _, [], .cons _ _, e => by simp at e
  | _, _, d :: ds, .cons r t, e => .cons r (each_zip t (by simpa using e))
theorem each_vals : ∀ {vs : List Value} {bs : List (V × PyData)}, PySem.W.EachIs (fun (v : Value) (b : V × PyData) => RelV b.1 v) vs bs → Vals (bs.map (·.1)) vs
  | _, _, .nil => .nil
  | _, _, .cons r t => .cons r (each_vals t)
end
theorem perm1 {α : Type} {l m : List α} (h : l.Perm m) (k : m.length ≤ 1) : l = m := by
  match m, k, h with
  | [], _, h => exact h.eq_nil
  | [v], _, h => exact List.perm_singleton.mp h
  | _ :: _ :: _, k, _ => exact absurd k (by simp)
theorem pair1 {α : Type} {R : α → α → Prop} {l : List α} (k : l.length ≤ 1) : l.Pairwise R := by
  match l, k with
  | [], _ => exact .nil
  | [v], _ => exact List.pairwise_singleton _ _
  | _ :: _ :: _, k => exact absurd k (by simp)
/-- sorted(xs): one item at most, or data of one form -/
def rSortedD (K : PySem.W.Frag) : List V → Hp → VK → Prop := fun vs H Q => ∃ (a : Addr) (xs : List V) (ds : List PyData), vs = [V.ref a] ∧ SqL K H a xs ∧ DpAll K H xs ds ∧ (xs.length ≤ 1 ∨ (PySem.W.AllAlike ds ∧ PySem.W.Sortable ds)) ∧ (∀ d ∈ ds, d.depth ≤ 60) ∧
  ∀ (bs : List (V × PyData)) (p : Addr), bs.Perm (xs.zip ds) → bs.Pairwise (fun x y => PySem.W.dataLe false Prod.snd x y = true) → DpAll K H (bs.map (·.1)) (bs.map (·.2)) → H p = none → Q (.ref p) (upd H p (.lst (bs.map (·.1))))
section
variable {X : Cx}
set_option maxHeartbeats 2000000 in
theorem cr_sortedD (hu : X.A.units + 64 < cLine) : CallR X (.builtin "sorted") (rSortedD X.K) := by
  intro pins s σ H vs us Q I r h
  obtain ⟨a, xs, ds, rfl, hs, hd, hal, hdep, q⟩ := h
  obtain ⟨its, rv, hl, hz⟩ := I.list hs
  rw [Vals.ref1 r]
  obtain ⟨el, hb⟩ := dp_zip hd
  rcases hal with h1 | ⟨hal, hso⟩
  · refine SrtO.sorted_ord (ltv := fun _ _ => false) ⟨fun _ _ h => (by cases h), fun _ _ _ _ _ => rfl⟩ hl.isList (by rw [← rv.length]; exact hz) (fun h2 => by have := rv.length; omega) fun out _ h2 => ?_
    obtain ⟨ep, he'⟩ := PyProof.Rows.sortedAll_at s.heap its out.toArray
    have eo : out = its := perm1 h2.perm (by have := rv.length; omega)
    subst eo
    have eb : (xs.zip ds).map (·.1) = xs := List.map_fst_zip (by omega)
    have q' := q (xs.zip ds) (s.heap.objs.size + 1) (.refl _) (pair1 (by rw [List.length_zip]; omega)) (zip_dp hb) (I.hok.fresh (Nat.le_succ _))
    rw [eb] at q'
    exact ⟨.ref _, upd H (s.heap.objs.size + 1) (.lst xs), I.laid (t' := s.toks) (fun _ _ => PyProof.Rows.sortedAll_old) (Nat.le_succ _) ⟨hz, _, ep, rv, he'⟩, rfl, q'⟩
  · have e1 := each_zip rv el
    have e2 : (xs.zip ds).map (·.2) = ds := List.map_snd_zip (by omega)
    have er : PySem.W.EachIs (fun v (b : V × PyData) => ∃ as, Reads s.heap v b.2 as) its (xs.zip ds) := (PySem.W.each_mem e1).mono fun v b ⟨h1, h2⟩ => Dp.reads I b.2 b.1 v (hb b h2) h1
    have lz : (xs.zip ds).length = xs.length := by rw [List.length_zip]; omega
    refine PySem.W.sorted_data (enc := Prod.snd) hl.isList e1 er (by rw [e2]; exact hal) (by rw [e2]; exact hso) (by rw [lz]; exact hz) (fun b hm => by have := hdep b.2 (List.of_mem_zip hm).2; omega) fun out ol eo => ?_
    obtain ⟨ep, he'⟩ := PyProof.Rows.sortedAll_at s.heap its out.toArray
    have pm : ((xs.zip ds).mergeSort (PySem.W.dataLe false Prod.snd)).Perm (xs.zip ds) := List.mergeSort_perm _ _
    have hlen : (((xs.zip ds).mergeSort (PySem.W.dataLe false Prod.snd)).map (·.1)).length ≤ sizeLine := by rw [List.length_map, pm.length_eq, lz]; exact hz
    refine ⟨.ref _, upd H (s.heap.objs.size + 1) (.lst (((xs.zip ds).mergeSort (PySem.W.dataLe false Prod.snd)).map (·.1))), I.laid (t' := s.toks) (fun _ _ => PyProof.Rows.sortedAll_old) (Nat.le_succ _) ⟨hlen, out, ep, each_vals eo, he'⟩, rfl, q _ _ pm ?_ (zip_dp fun b hm => hb b (pm.mem_iff.mp hm)) (I.hok.fresh (Nat.le_succ _))⟩
    exact PySem.W.sort_pairwise (PySem.W.sortLe_total _ _ _) _
end
/-! two sorted lists of the same items are one, where items whose keys agree are one -/
theorem sorted_eq {α : Type} {le : α → α → Prop} (anti : ∀ x y, le x y → le y x → x = y) : ∀ {l m : List α}, l.Perm m → l.Pairwise le → m.Pairwise le → l = m
  | [], m, h, _, _ => h.nil_eq
  | x :: l, [], h, _, _ => by have := h.length_eq; simp at this
  | x :: l, y :: m, h, hl, hm => by
    have e : x = y := by
      rcases List.mem_cons.mp (h.mem_iff.mp (List.mem_cons_self (a := x) (l := l))) with e | h1
      · exact e
      · rcases List.mem_cons.mp (h.mem_iff.mpr (List.mem_cons_self (a := y) (l := m))) with e | h2
        · exact e.symm
        · exact anti x y ((List.pairwise_cons.mp hl).1 y h2) ((List.pairwise_cons.mp hm).1 x h1)
    subst e
    rw [sorted_eq anti h.cons_inv (List.pairwise_cons.mp hl).2 (List.pairwise_cons.mp hm).2]
theorem le_toks {d e : PyData} (h1 : PySem.W.dataLe false (fun x : PyData => x) d e = true) (h2 : PySem.W.dataLe false (fun x : PyData => x) e d = true) : PySem.W.keyToks d = PySem.W.keyToks e := by
  rw [PySem.W.dataLe_eq] at h1 h2
  simp only [cond_false, Bool.not_eq_true'] at h1 h2
  exact (listOrd PyProof.Rows.itemOrd).total _ _ h2 h1
end Sd
set_option linter.all false
/-! classes of one's own: x == y, x != y, len(x), str(x) by own methods; raise where it is never reached -/
namespace Cl
open PySem PySem.Spec PyProof.Rows PySem.Calls L2
theorem kit_own {K : PySem.W.Frag} {c : Addr} : PySem.W.kitOne K (.ref c) (.ref c) = some true := by
  unfold PySem.W.kitOne
  rw [if_pos (by simp)]
theorem ps_never {X : Cx} {st : Stmt} : PS X st (fun _ _ _ => False) := ⟨fun _ _ _ _ _ _ h => h.elim⟩
section
variable {X : Cx} {CX : CXT} {k : Nat} {f C : Addr} {fd : FuncData} {ps : List Str} {sp : Sp} {E : XK}
/-- the callee runs, a little deeper -/
theorem run_at {A : Around} {pins : List (Addr × Obj)} {σ : L2.St} {H : Hp} {s : Shared} {Q : VK} {us : List Value} {vs : List V} (F : FnOk X.prog X.w X.K X.mg X.base CX k f fd ps sp) (room : Room k A) (fr : A.frames = X.A.frames) (hb : Binds X.K fd ps []) (hx : Passes CX X E)
    (I : L2.Inv X pins σ H s) (r : Vals vs us) (h : sp vs H Q E) : wpAny (model X.prog X.w) A (call (.ref f) us) (EP X pins σ Q) X.xe s := by
  have e0 : Env0 X.prog X.w X.K X.mg X.base A X.stack s H := by
    have e := I.env0
    exact ⟨by rw [fr]; exact e.frames, e.mod, e.bs, e.bsz, e.funs, e.frf, e.hok, e.bare⟩
  have hl := F.len _ _ _ _ h
  have hl2 := r.length
  refine wpAny_call (codeAny_mono (F.run A X.stack s H ⟨us, []⟩ us vs _ E room e0 (by
    have := hb s us I.kIn (by rw [List.append_nil]; omega)
    rw [List.append_nil] at this
    exact this) r h) fun r s' hq => ?_)
  cases r with
  | error e => exact hx pins σ H s e s' I hq
  | ok fl =>
    cases fl with
    | ret w => exact I.after hq
    | next => exact False.elim hq
    | brk => exact False.elim hq
    | cont => exact False.elim hq
/-- x == y, x and y instances of C -/
def rEqC (C : Addr) (sp : Sp) (E : XK) : R2 := fun x y H Q => ∃ a b dx dy fs gs, x = .ref a ∧ y = .ref b ∧ H a = some (.ins C dx fs) ∧ H b = some (.ins C dy gs) ∧ sp [.ref a, .ref b] H (fun v H' => ∃ t, v = .bl t ∧ Q (.bl t) H') E
theorem op_eqC (hm : Meth X.K C "__eq__" f) (F : FnOk X.prog X.w X.K X.mg X.base CX k f fd ps sp) (hr : Room k X.A) (hb : Binds X.K fd ps []) (hx : Passes CX X E) : OpR X (compareOp .Eq) (rEqC C sp E) := by
  intro pins s σ H x y v u Q I rx ry hq
  obtain ⟨a, b, dx, dy, fs, gs, rfl, rfl, ha, hb', hq⟩ := hq
  cases rx
  cases ry
  obtain ⟨mA, J, _⟩ := ins_get I.hok ha
  obtain ⟨mB, J', _⟩ := ins_get I.hok hb'
  obtain ⟨od, J, _⟩ := J.look
  obtain ⟨od', J', _⟩ := J'.look
  obtain ⟨m, hF⟩ := I.fr
  show wpAny (model X.prog X.w) X.A (richCompare .Eq (.ref a) (.ref b)) (EP X pins σ Q) X.xe s
  refine PySem.W.cmp_K (op := .Eq) (tb := .ref C) hr.units0 hF I.ok.mod.kin J J'.type (by simp [PySem.W.notFirst]) hm.at_ hm.fn ?_
  refine wpAny_mono (run_at (vs := [.ref a, .ref b]) F hr rfl hb hx I (.cons rfl (.cons rfl .nil)) hq) (fun v s' hv => ?_) fun _ _ z => z
  obtain ⟨z, H', I', rz, t, rfl, q⟩ := hv
  cases rz
  exact ⟨.bl t, H', I', rfl, q⟩
theorem ifBound_bi {M : Model} {A : Around} {E : Value → Shared → Prop} {s : Shared} {K : PySem.W.Frag} {x C : Addr} {ox : Obj} {od : Option Obj} {name : Str} {id : String} {args : List Value} {Q : Option Value → Shared → Prop} (X : K.In s.heap) (I : PySem.W.InstAt s.heap x ox C od) (hs : PySem.W.findIn K (.ref C) name = some (some (.builtin id)))
    (hb : ∀ self, bindSpecial (.builtin id) self = pure (.builtin id, [self])) (h : wpAny M A (call (.builtin id) (.ref x :: args)) (fun v => Q (some v)) E s) : wpAny M A (callSpecialIfBound? (.ref x) name args) Q E s := by
  simp only [callSpecialIfBound?, bindSpecialIfBound?]
  refine wpAny_holding (wpAny_bind (wpAny_bind (wpAny_bind (I.type.here ((PySem.W.looks_findIn X hs).here ?_)))))
  refine wpAny_bind (wpAny_askSetting (wpAny_ite ?_))
  have fin : wpAny M A (call (.builtin id) ([.ref x] ++ args) >>= fun v => pure (some v)) Q E s := wpAny_bind (wpAny_mono h (fun v s' h' => wpAny_pure h') fun _ _ h' => h')
  split
  · exact wpAny_bind ((PySem.W.Looks.of_pure (hb _)).here (wpAny_pure (by exact fin)))
  · exact wpAny_tryCatch (wpAny_bind ((PySem.W.Looks.of_pure (hb _)).here (wpAny_pure (by exact fin))))
theorem ne_K {prog : Program} {w : World} {A : Around} {E : Value → Shared → Prop} {s : Shared} {K : PySem.W.Frag} {x y C f : Addr} {ox oy : Obj} {od od' : Option Obj} {Q : Value → Shared → Prop} (hu : A.units + 1 < cLine) (X : K.In s.heap) (I : PySem.W.InstAt s.heap x ox C od) (J : PySem.W.InstAt s.heap y oy C od')
    (hn : PySem.W.findIn K (.ref C) "__ne__" = some (some (.builtin "object.__ne__"))) (hm : PySem.W.mroIn K C (.type "object") = some true) (hs : PySem.W.findIn K (.ref C) "__eq__" = some (some (.ref f))) (hf : PySem.W.isFn K (.ref f) = true)
    (h : wpAny (model prog w) A.in1 (call (.ref f) [.ref x, .ref y]) (fun v s' => ∃ b, v = .bool b ∧ Q (.bool (!b)) s') E s) : wpAny (model prog w) A (richCompare .NotEq (.ref x) (.ref y)) Q E s := by
  have one : wpAny (model prog w) A (tryCompare (.ref x) (cmpInfo .NotEq).2.1 (.ref y)) (fun r s' => ∃ v, r = some v ∧ Q v s') E s := by
    unfold tryCompare
    refine wpAny_bind (ifBound_bi X I hn (fun _ => PySem.F.cmp_object.ne.bind _) (wpAny_call (codeAny_call_builtin PySem.F.cmp_object.ne.plain PySem.F.cmpEntry_ne
      (PySem.W.check_slot (i := "object.__ne__") (owner := "object") (n := "__ne__") PySem.F.cmpKind_ne PySem.F.cmpSplit_ne (I.type.andThen (PySem.W.looks_mroIn X hm)) (PySem.F.cmpArgs_ne _ _) ?_))))
    unfold Builtin.«object.__ne__»
    refine wpAny_bind (wpAny_pure ?_)
    refine wpAny_bind (wpAny_cRoomFor hu ?_)
    refine wpAny_bind (m := callSpecialIfBound? (.ref x) (Str.ofString "__eq__") [.ref y]) (PySem.W.ifBound_K X I hs hf (wpAny_mono h (fun v s' hv => ?_) fun _ _ e => e))
    obtain ⟨b, rfl, hq⟩ := hv
    refine wpAny_bind (m := truthy (.bool b)) (wpAny_truthy_bool ?_)
    exact wpAny_pure (wpAny_pure ⟨_, rfl, hq⟩)
  unfold richCompare
  simp only [oneThing_ref]
  refine wpAny_holding (wpAny_bind (wpAny_cRoomFor (by omega) ?_))
  refine wpAny_bind (I.type.here (wpAny_bind (J.type.here ?_)))
  rw [show (Value.ref C != Value.ref C) = false from by simp]
  simp only [Bool.false_eq_true, if_false]
  refine wpAny_bind (wpAny_pure ?_)
  simp only [Bool.false_eq_true, if_false]
  refine wpAny_bind (wpAny_mono one (fun r s' z => ?_) fun _ _ e => e)
  obtain ⟨v, rfl, hq⟩ := z
  exact wpAny_pure hq
/-- len(x), x an instance of C -/
def rLenC (C : Addr) (sp : Sp) (E : XK) : List V → Hp → VK → Prop := fun xs H Q => ∃ a dx fs, xs = [.ref a] ∧ H a = some (.ins C dx fs) ∧ sp [.ref a] H (fun v H' => ∃ n : Nat, v = .int n ∧ n < 2 ^ 62 ∧ Q (.int n) H') E
theorem call_lenC (hm : Meth X.K C "__len__" f) (F : FnOk X.prog X.w X.K X.mg X.base CX k f fd ps sp) (hr : Room (k + 1) X.A) (hb : Binds X.K fd ps []) (hx : Passes CX X E) : CallR X (.builtin "len") (rLenC C sp E) := by
  intro pins s σ H xs us Q I r h
  obtain ⟨a, dx, fs, rfl, ha, hq⟩ := h
  obtain ⟨u, rfl, rx⟩ := vals1 r
  cases rx
  obtain ⟨mA, J, _⟩ := ins_get I.hok ha
  obtain ⟨od, J, _⟩ := J.look
  obtain ⟨m, hF⟩ := I.fr
  refine PySem.W.len_K hF I.ok.mod.kin J hm.at_ hm.fn ?_
  refine wpAny_mono (run_at (vs := [.ref a]) F hr.in1 rfl hb hx I (.cons rfl .nil) hq) (fun v s' hv => ?_) fun _ _ z => z
  obtain ⟨z, H', I', rz, n, rfl, hn, q⟩ := hv
  obtain ⟨t, rfl⟩ := rz
  exact ⟨⟨by omega, by omega⟩, ⟨.int n, H', I'.tok _, ⟨_, rfl⟩, q⟩⟩
/-- str(x), x an instance of C -/
def rStrC (C : Addr) (sp : Sp) (E : XK) : List V → Hp → VK → Prop := fun xs H Q => ∃ a dx fs, xs = [.ref a] ∧ H a = some (.ins C dx fs) ∧ sp [.ref a] H (fun v H' => ∃ z, v = .str z ∧ Q (.str z) H') E
theorem call_strC (hm : Meth X.K C "__str__" f) (F : FnOk X.prog X.w X.K X.mg X.base CX k f fd ps sp) (hr : Room (k + 2) X.A) (hb : Binds X.K fd ps []) (hx : Passes CX X E) : CallR X (.type "str") (rStrC C sp E) := by
  intro pins s σ H xs us Q I r h
  obtain ⟨a, dx, fs, rfl, ha, hq⟩ := h
  obtain ⟨u, rfl, rx⟩ := vals1 r
  cases rx
  obtain ⟨mA, J, _⟩ := ins_get I.hok ha
  obtain ⟨od, J, _⟩ := J.look
  obtain ⟨m, hF⟩ := I.fr
  refine PySem.W.kso_call hr.in1.in1.units0 I.kIn J hm.at_ hm.fn ?_
  refine wpAny_mono (run_at (vs := [.ref a]) F hr.in1.in1 rfl hb hx I (.cons rfl .nil) hq) (fun v s' hv => ?_) fun _ _ z => z
  obtain ⟨z, H', I', rz, y, rfl, q⟩ := hv
  obtain ⟨t, rfl⟩ := rz
  exact ⟨.str y, H', I', ⟨_, rfl⟩, q⟩
/-- x != y, x and y instances of C -/
theorem op_neC (hm : Meth X.K C "__eq__" f) (hn : PySem.W.findIn X.K (.ref C) "__ne__" = some (some (.builtin "object.__ne__"))) (ho : PySem.W.mroIn X.K C (.type "object") = some true) (F : FnOk X.prog X.w X.K X.mg X.base CX k f fd ps sp) (hr : Room (k + 1) X.A) (hb : Binds X.K fd ps []) (hx : Passes CX X E) :
    OpR X (compareOp .NotEq) (fun x y H Q => rEqC C sp E x y H fun v H' => ∃ t, v = .bl t ∧ Q (.bl (!t)) H') := by
  intro pins s σ H x y v u Q I rx ry hq
  obtain ⟨a, b, dx, dy, fs, gs, rfl, rfl, ha, hb', hq⟩ := hq
  cases rx
  cases ry
  obtain ⟨mA, J, _⟩ := ins_get I.hok ha
  obtain ⟨mB, J', _⟩ := ins_get I.hok hb'
  obtain ⟨od, J, _⟩ := J.look
  obtain ⟨od', J', _⟩ := J'.look
  show wpAny (model X.prog X.w) X.A (richCompare .NotEq (.ref a) (.ref b)) (EP X pins σ Q) X.xe s
  refine ne_K (by have := hr.un; omega) I.kIn J J' hn ho hm.at_ hm.fn ?_
  refine wpAny_mono (run_at (vs := [.ref a, .ref b]) F hr.in1 rfl hb hx I (.cons rfl (.cons rfl .nil)) hq) (fun v s' hv => ?_) fun _ _ z => z
  obtain ⟨z, H', I', rz, t, rfl, t', e, q⟩ := hv
  cases rz
  cases e
  exact ⟨t, rfl, .bl (!t), H', I', rfl, q⟩
end
end Cl
set_option linter.all false
/-! try .. except C as n, where the suite knows the exception's object (it is tracked from there on); defs that are called while an exception is handled -/
namespace Xa
open PySem PySem.Spec PyProof.Rows L2
/-- an object whose whole is told -/
def pin (a : Addr) (oe : Obj) : HO := .ext fun h => h.get? a = some oe
theorem pin_ok {P : Program} {w : World} {H : Hp} {h : Heap} {a : Addr} {oe : Obj} (e : h.get? a = some oe) : ObjOk P w H h a (pin a oe) := ⟨e, ⟨oe, e⟩, fun _ _ z k => k _ z⟩
theorem pin_get {P : Program} {w : World} {H : Hp} {h : Heap} {a : Addr} {oe : Obj} (ok : HOk P w H h) (e : H a = some (pin a oe)) : h.get? a = some oe := (show ObjOk P w H h a (.ext fun h => h.get? a = some oe) from ok a _ e).1
/-- an untracked object is tracked -/
theorem adopt {X : Cx} {pins : List (Addr × Obj)} {σ : L2.St} {H : Hp} {s : Shared} {a : Addr} {oe : Obj} {vs : Array Value} (J : L2.Inv X pins σ H s) (e : s.heap.get? a = some oe) (hd : oe.data = .fields vs) (n : H a = none) (n0 : X.s_0.heap.get? a = none) (nL : a ≠ X.env.locals)
    (np : ∀ p ∈ X.pn ++ pins, p.1 ≠ a) : L2.Inv X pins σ (upd H a (pin a oe)) s := by
  have ne : ∀ {b : Addr} {o : HO}, H b = some o → b ≠ a := fun {b o} q z => by rw [z, n] at q; cases q
  refine ⟨J.ok, J.os, J.bare, ⟨J.base.keep, J.base.slot, fun b o q m x => ?_, J.base.there, fun b xs q => ?_, fun b o u q => ?_, fun b ps q => ?_⟩, J.loc, J.cell, ?_, fun x c hc => ?_, fun p hp => ?_, fun b o q => ?_, J.len⟩
  · have z : b ≠ a := fun z => by rw [z, n0] at q; cases q
    rw [upd_ne z]
    exact J.base.free b o q m x
  · have z := J.base.tups b xs q
    rw [upd_ne (ne z)]
    exact z
  · have z := J.base.frzs b o u q
    rw [upd_ne (ne z)]
    exact z
  · obtain ⟨more, z⟩ := J.base.tbls b ps q
    exact ⟨more, by rw [upd_ne (ne z)]; exact z⟩
  · rw [upd_ne (Ne.symm nL)]
    exact J.free
  · obtain ⟨v, o, z1, z2⟩ := J.cell x c hc
    have z : c ≠ a := fun z => by
      rw [z, e] at z1
      cases z1
      rw [hd] at z2
      cases z2
    rw [upd_ne z]
    exact J.freeC x c hc
  · obtain ⟨e1, e2, e3, e4, e5⟩ := J.pin p hp
    exact ⟨e1, by rw [upd_ne (np p hp)]; exact e2, e3, e4, e5⟩
  · by_cases z : b = a
    · subst z
      rw [upd_same] at q
      cases q
      exact pin_ok e
    · rw [upd_ne z] at q
      exact (J.hok b o q).stay (fun _ _ _ r => r) (fun c r => by rw [upd_ne (ne r)]; exact r) fun c xs r => by rw [upd_ne (ne r)]; exact r
/-- what the clause 'except x as n' wishes, slot i being n's: from there on the exception is tracked -/
def wIn (K : PySem.W.Frag) (c : Value) (i : Nat) (ts : TS) (Wout : WX) (D : Ends) : WX := fun cls d σ H =>
  ∃ b, PySem.W.exmOne K cls c = some b ∧
    (b = true → ∀ (a : Addr) (oe : Obj), H a = none → Zc cls d oe → (∃ vs, oe.data = .fields vs) →
      ts { nx := fun τ G => D.nx (τ.set i none) G, rt := D.rt, bk := fun τ G => D.bk (τ.set i none) G, ct := fun τ G => D.ct (τ.set i none) G } (σ.set i (some (.ref a))) (upd H a (pin a oe))) ∧
    (b = false → Wout cls d σ H)
theorem back {X : Cx} {a : Addr} {pins pn' : List (Addr × Obj)} {σ : L2.St} {H : Hp} {s : Shared} (J : L2.Inv (X.suite a (X.pn ++ pins)) pn' σ H s) (ok : X.Ok) : L2.Inv X pins σ H s :=
  ⟨ok, J.os, J.bare, J.base, J.loc, J.cell, J.free, J.freeC, fun p hp => J.pin p (List.mem_append_left _ hp), J.hok, J.len⟩
theorem forth {X : Cx} {a : Addr} {pins : List (Addr × Obj)} {σ : L2.St} {H : Hp} {s : Shared} (J : L2.Inv X pins σ H s) : L2.Inv (X.suite a (X.pn ++ pins)) [] σ H s :=
  ⟨J.ok.suite _ _, J.os, J.bare, J.base, J.loc, J.cell, J.free, J.freeC, fun p hp => J.pin p (by rw [List.append_nil] at hp; exact hp), J.hok, J.len⟩
section
variable {X : Cx} {x n : Str} {c : Value} {i : Nat} {body suite : List Stmt} {b₀ : Stmt} {np pos pos' : Pos} {tb : WX → TS} {ts : TS} {Wout : WX}
theorem ps_try_in (hs : X.stack = X.env :: X.outer) (hf : X.env.frame = some X.env.locals) (nd : X.N.Nodup) (hi : X.N[i]? = some n) (hl : X.env.kindOf n = some .local) (hc : Names X x c) (tk : Takes X Wout) (hex0 : X.ex = [])
    (hb : ∀ (W : WX) (pn : List (Addr × Obj)) (xe : Value → Shared → Prop), Takes (X.tr pn xe) W → PassesOwn (model X.prog X.w) X.A X.env xe → PSs (X.tr pn xe) body (tb W))
    (hsu : ∀ (a : Addr) (pn : List (Addr × Obj)), PSs (X.suite a pn) (b₀ :: suite) ts) :
    PS X (.Try body [.ExceptHandler (some (.Name x np)) (some n) (b₀ :: suite) pos'] [] [] pos) (fun D σ H => tb (wIn X.K c i ts Wout D) D σ H) := by
  refine ⟨fun pins s σ H D J0 h0 => ?_⟩
  have ok := J0.ok
  have fr : X.A.frames = some (X.env :: X.outer) := ok.frames.trans (by rw [hs])
  refine wpAny_Try_except (wpAny_mono ((hb (wIn X.K c i ts Wout D) (X.pn ++ pins) (fun e t1 => wpAny (model X.prog X.w) X.A (noteFrame e X.env) (fun _ t2 => wpAny (model X.prog X.w) X.A (setFlight e none)
    (fun _ t3 => wpAny (model X.prog X.w) X.A (handleBy e X.env [.ExceptHandler (some (.Name x np)) (some n) (b₀ :: suite) pos']) (SP X pins D) X.xe t3) X.xe t2) X.xe t1) (fun u t xx => ?_) PassesOwn.looking).run [] s σ H D (J0.toTry _) h0) (fun f t hsp => ?_) (fun e t he => he))
  · obtain ⟨a, B, sI, pins', τ, G, cls, d, rfl, I1, nb, up, sky, na, os, ag, b, hb1, hyes, hno⟩ := xx
    have I2 : L2.Inv X pins τ G sI := I1.ofTry ok
    have sky2 : Sky B (X.env :: X.outer) a (Zc cls d) X.env.locals t.heap := by
      rw [← hs]
      exact sky
    show wpAny (model X.prog X.w) X.A (noteFrame (.ref a) X.env) _ _ _
    refine Sky.land Zc.steady fr hf sky2 fun h3 fl up3 => ?_
    have I3 : L2.Inv X pins τ G { t with heap := h3 } := I2.landed nb fl.1 (up.trans up3) os ag
    obtain ⟨o3, v3, g3, z3, d3⟩ := fl.there
    have nB : B.get? a = none := fl.2.1
    have notFr : a ∉ frs (X.env :: X.outer) := fun m => by
      obtain ⟨_, o', e', q⟩ := fl.2.2.1.mem m
      rw [g3] at e'
      cases e'
      exact q _ d3
    have nL : a ≠ X.env.locals := fun z => notFr (List.mem_filterMap.mpr ⟨X.env, List.mem_cons_self, by rw [hf, z]⟩)
    have nS : a ∉ frs X.stack := by
      rw [hs]
      exact notFr
    have nI : sI.heap.get? a = none := by
      cases q : sI.heap.get? a with
      | none => rfl
      | some o => exact absurd (nb a o q nS) (by rw [nB]; exact fun z => nomatch z)
    have hex : a ∉ X.ex := by
      rw [hex0]
      exact fun z => nomatch z
    have n0 : X.s_0.heap.get? a = none := by
      cases q : X.s_0.heap.get? a with
      | none => rfl
      | some o =>
        obtain ⟨o', e'⟩ := I2.base.there a o q hex
        rw [nI] at e'
        cases e'
    have npin : ∀ p ∈ X.pn ++ pins, p.1 ≠ a := fun p hp z => by
      have q := (I2.pin p hp).1
      rw [z, nI] at q
      cases q
    have cE : PySem.W.Looks (model X.prog X.w) h3 (typeOf (.ref a)) cls := fun A Q E s k q => wpAny_typeOf_ref (k _ _ g3) (by rw [z3.1]; exact q)
    have cB := PySem.W.exm_one (M := model X.prog X.w) I3.kIn cE hb1
    refine wpAny_handleBy_cons (codeAny_handlers_test ?_) (by intro q; cases q)
    have I3s : L2.Inv (X.suite a (X.pn ++ pins)) [] τ G { t with heap := h3 } := forth I3
    have see : ∀ {Q : Value → Shared → Prop} {E : Value → Shared → Prop}, Q c { t with heap := h3 } → wpAny (model X.prog X.w) (X.suite a (X.pn ++ pins)).A (eval (.Name x np) X.env) Q E { t with heap := h3 } := fun {Q E} q => by
      obtain ⟨hg, hdbg, hm | ⟨hm, hv, hnn⟩⟩ := hc
      · exact ld_glob (X := X.suite a (X.pn ++ pins)) I3s hg hm q hdbg
      · exact ld_blt (X := X.suite a (X.pn ++ pins)) I3s hg hm hv q hnn hdbg
    refine see (cB.here ?_)
    cases b with
    | true =>
      refine codeAny_handlers_suite_as ?_
      refine HandSPX.lands_againZ fl fun h4 fl4 up4 => ?_
      have I4 : L2.Inv X pins τ G { t with heap := h4 } := I2.landed nb fl4.1 ((up.trans up3).trans up4) os ag
      obtain ⟨o4, v4, g4, z4, d4⟩ := fl4.there
      have I5 : L2.Inv (X.suite a (X.pn ++ pins)) [] τ (upd G a (pin a o4)) { t with heap := h4 } := forth (adopt I4 g4 d4 na n0 nL npin)
      refine store_ok (X := X.suite a (X.pn ++ pins)) (v := .ref a) I5 nd hi (.inl hl) rfl (fun s5 I6 => ?_) (.inr hl)
      refine wpAny_mono ((hsu a (X.pn ++ pins)).run [] s5 _ _ _ I6 (hyes rfl a o4 na z4 ⟨v4, d4⟩)) (fun f s6 hsp => ?_) (fun _ _ z => z.elim)
      have fin : ∀ {σ6 : L2.St} {H6 : Hp} {Q : Shared → Prop}, L2.Inv (X.suite a (X.pn ++ pins)) [] σ6 H6 s6 → (∀ s7, L2.Inv X pins (σ6.set i none) H6 s7 → Q s7) →
          wpAny (model X.prog X.w) X.A (do bindName X.env n .none; unbindBehindTheSuite X.env n pos') (fun _ s7 => Q s7) X.xe s6 := fun I7 hq => gone_ok (back I7 ok) nd hi hl hq
      cases f with
      | next =>
        obtain ⟨_, _, I7, q⟩ := hsp
        exact fin I7 fun _ I8 => ⟨_, _, I8, q⟩
      | brk =>
        obtain ⟨_, _, I7, q⟩ := hsp
        exact fin I7 fun _ I8 => ⟨_, _, I8, q⟩
      | cont =>
        obtain ⟨_, _, I7, q⟩ := hsp
        exact fin I7 fun _ I8 => ⟨_, _, I8, q⟩
      | ret u =>
        obtain ⟨_, _, _, I7, r, q⟩ := hsp
        exact fin I7 fun _ I8 => ⟨_, _, _, I8, r, q⟩
    | false =>
      show wpAny _ X.A (handleBy (.ref a) X.env []) _ _ _
      refine wpAny_handleBy_nil ?_
      obtain ⟨_, _, _, oe, vs, T, oT, us, ga, _, da, v1, _⟩ := id fl
      unfold PySem.passOn
      refine wpAny_bind (wpAny_field ga da v1 ?_)
      rw [if_neg (show ¬ ((Value.ref T == Value.none) = true) by simp)]
      have on : wpAny (model X.prog X.w) X.A (setFlight (.ref a) X.env.frame) (fun _ t4 => wpAny (model X.prog X.w) X.A (throw (.ref a) : Sem Flow) (SP X pins D) X.xe t4) X.xe { t with heap := h3 } := by
        rw [hf]
        exact HandSPX.setFlight_upZ fl fun h4 hh4 up4 => wpAny_throw (tk _ _ ⟨a, B, sI, pins, τ, G, cls, d, rfl, I2, nb, (up.trans up3).trans up4, .inr (.inr (by rw [hs]; exact hh4)), na, os, ag, hno rfl⟩)
      first
        | exact wpAny_bind (wpAny_pure (wpAny_bind on))
        | exact wpAny_bind on
  · cases f with
    | next =>
      obtain ⟨_, _, I1, q⟩ := hsp
      exact wpAny_execs_nil ⟨_, _, I1.ofTry ok, q⟩
    | brk =>
      obtain ⟨_, _, I1, q⟩ := hsp
      exact ⟨_, _, I1.ofTry ok, q⟩
    | cont =>
      obtain ⟨_, _, I1, q⟩ := hsp
      exact ⟨_, _, I1.ofTry ok, q⟩
    | ret u =>
      obtain ⟨_, _, _, I1, r, q⟩ := hsp
      exact ⟨_, _, _, I1.ofTry ok, r, q⟩
end
/-! ### defs that are called while an exception is handled -/
structure FnW (P : Program) (w : World) (K : PySem.W.Frag) (mg : Str → Option Value) (base : Heap) (CX : CXT) (k : Nat) (f : Addr) (fd : FuncData) (ps : List Str) (sp : Sp) : Prop where
  len : ∀ vs H Q E, sp vs H Q E → vs.length = ps.length
  run : ∀ (A : Around) (outer : List Env) (s : Shared) (H : Hp) (args : Args) (us : List Value) (vs : List V) (Q : VK) (E : XK), L2H.RoomH k A → Env0 P w K mg base A outer s H → BindsTo s fd args (ps.zip us) → Vals vs us → sp vs H Q E → codeAny (model P w) A (.call (.ref f) args) (CR CX outer P w H s Q E) s
def cxW (CX : CXT) (P : Program) (w : World) (K : PySem.W.Frag) (mg : Str → Option Value) (base : Heap) (N : List Str) (qual : Str) (scope : Scope) (f : Addr) (cd : Value) (A : Around) (outer : List Env) (s : Shared) (H : Hp) (E : XK) : Cx := { cxOf CX P w K mg base N qual scope f cd A outer s H E with calm := false }
theorem start_W {CX : CXT} {P : Program} {w : World} {K : PySem.W.Frag} {mg : Str → Option Value} {base : Heap} {N ps : List Str} {qual : Str} {scope : Scope} {f : Addr} {cd : Value} {A : Around} {outer : List Env} {s s1 : Shared} {H : Hp} {E : XK} {us : List Value} {vs : List V} (S : FnScope N ps scope) (e0 : Env0 P w K mg base A outer s H) (hl : vs.length = ps.length) (r : Vals vs us)
    (x : InCallC s s.heap.objs.size (bindL (envOfC qual scope s.heap.objs.size f cd).kindOf (ps.zip us) fun _ => none) (cellsFrom (s.heap.objs.size + 1) scope.names []) (bindC (envOfC qual scope s.heap.objs.size f cd).kindOf (ps.zip us) fun _ => none) s1) : L2.Inv (cxW CX P w K mg base N qual scope f cd A outer s H E) [] (L2.start N vs) H s1 := by
  have J := inv_start (CX := CX) (cd := cd) (f := f) (qual := qual) (E := E) (A := { A with handled := none }) S rfl ⟨e0.frames, e0.mod, e0.bs, e0.bsz, e0.funs, e0.frf, e0.hok, e0.bare⟩ hl r x
  exact ⟨⟨J.ok.mod, J.ok.kind, J.ok.glob, J.ok.blt, J.ok.above, J.ok.inj, J.ok.has, J.ok.cab, (fun z => Bool.noConfusion (show false = true from z)), J.ok.frames, J.ok.stk, J.ok.exf, J.ok.bs, J.ok.bsz, J.ok.noex, J.ok.exfs, J.ok.funs, J.ok.frf⟩,
    J.os, J.bare, J.base, J.loc, J.cell, J.free, J.freeC, J.pin, J.hok, J.len⟩
theorem fn_W {CX : CXT} {P : Program} {w : World} {K : PySem.W.Frag} {mg : Str → Option Value} {base : Heap} {k : Nat} {f : Addr} {name qual : Str} {params : Arguments} {body : List Stmt} {scope : Scope} {dV kV doc pm cdv ct oc : Value} {an od : Option Addr}
    {osl : Array (Option Value)} {N ps : List Str} {sp : Sp} (lk : K.lookup f = some ⟨oc, od, .func (PySem.W.fnOf name qual params body scope dV kV doc pm an cdv ct), osl⟩) (hcd : PySem.W.codeIn K cdv qual = true) (S : FnScope N ps scope)
    (len : ∀ vs H Q E, sp vs H Q E → vs.length = ps.length)
    (hbody : ∀ (A : Around) (outer : List Env) (s : Shared) (H : Hp) (vs : List V) (Q : VK) (E : XK), L2H.RoomH k (A.deeper (envOfC qual scope s.heap.objs.size f cdv)) → sp vs H Q E →
      ∃ t, PSs (cxW CX P w K mg base N qual scope f cdv A outer s H E) body t ∧ t { nx := fun _ G => Q .non G, rt := Q } (L2.start N vs) H) :
    FnW P w K mg base CX (k + 1) f (PySem.W.fnOf name qual params body scope dV kV doc pm an cdv ct) ps sp := by
  refine ⟨len, fun A outer s H args us vs Q E hr e0 hb r hsp => ?_⟩
  have kx : K.In s.heap := e0.mod.kin.keeps fun b o e => (e0.bs b o e).1
  have nl : s.heap.NoLimit := e0.mod.nolimit.keeps fun b o e => (e0.bs b o e).1
  have hk : ∀ y ∈ ps.zip us, scope.names.lookup y.1 = some .local ∨ (scope.names.lookup y.1 = some .cell ∧ ((cellsFrom (s.heap.objs.size + 1) scope.names []).lookup y.1).isSome = true) := fun y hy =>
    (S.par y.1 (List.of_mem_zip (a := y.1) (b := y.2) hy).1).imp id fun q => ⟨q, PySem.W.cellsFrom_some _ _ _ (.inl q)⟩
  refine codeAny_call_function hr.depth (kx _ _ lk) rfl S.co S.gen rfl (PySem.W.codeRec_of kx hcd) (hb _ _ _ _ (wpAny_newFunctionEnv_cells S.kind hk fun env he t x => ?_))
  subst he
  obtain ⟨T, ht, hq⟩ := hbody A outer s H vs Q E (hr.deeper _) hsp
  have J : L2.Inv (cxW CX P w K mg base N qual scope f cdv A outer s H E) [] (L2.start N vs) H t := start_W S e0 (len _ _ _ _ hsp) r x
  refine ⟨nl.keeps x.toInCall.keep, codeAny_func (wpAny_mono (ht.run [] t (L2.start N vs) H _ J hq) (fun fl u hs => ?_) fun _ _ hs => hs)⟩
  cases fl with
  | ret v =>
    obtain ⟨v', _, G, J, rv, q⟩ := hs
    exact ⟨v', G, J.os, J.bare, J.base, J.hok, rv, q⟩
  | next =>
    obtain ⟨_, G, J, q⟩ := hs
    exact ⟨V.non, G, J.os, J.bare, J.base, J.hok, rfl, q⟩
  | brk =>
    obtain ⟨_, _, _, q⟩ := hs
    exact q.elim
  | cont =>
    obtain ⟨_, _, _, q⟩ := hs
    exact q.elim
/-- as Fun.ok, for a def that may be called while an exception is handled -/
theorem okW {P : Program} {w : World} {K : PySem.W.Frag} {mg : Str → Option Value} {base : Heap} {x qual : Str} {st : Stmt} {f : Addr} {fd : FuncData} {N ps : List Str} {k : Nat} {sp : Sp} (F : Fun K x qual st f fd) (S : FnScope N ps (defScope st)) (len : ∀ vs H Q E, sp vs H Q E → vs.length = ps.length)
    (hbody : ∀ (cdv : Value) (A : Around) (outer : List Env) (s : Shared) (H : Hp) (vs : List V) (Q : VK) (E : XK), L2H.RoomH k (A.deeper (envOfC qual (defScope st) s.heap.objs.size f cdv)) → sp vs H Q E →
      ∃ t, PSs (cxW CX0 P w K mg base N qual (defScope st) f cdv A outer s H E).nox (defBody st) t ∧ t { nx := fun _ G => Q .non G, rt := Q } (L2.start N vs) H) : FnW P w K mg base CX0 (k + 1) f fd ps sp := by
  obtain ⟨oc, od, kV, doc, pm, an, cdv, ct, osl, rfl, lk, hcd⟩ := F.ex
  refine fn_W lk hcd S len fun A outer s H vs Q E hr hsp => ?_
  obtain ⟨t, h, q⟩ := hbody cdv A outer s H vs Q E hr hsp
  exact ⟨t, h.nox, q⟩
theorem roomM {k : Nat} {A : Around} (r : Room k A) (u : Option Value) : L2H.RoomH k (A.mark u) := ⟨r.dp, r.un⟩
section
variable {X : Cx} {k : Nat} {f : Addr} {fd : FuncData} {ps : List Str} {sp : Sp} {E : XK} {x : Str} {q pos : Pos} {e : Expr} {es : List Expr} {t : TA}
theorem pe_callW (F : FnW X.prog X.w X.K X.mg X.base CX0 k f fd ps sp) (hr : L2H.RoomH k X.A) (hg : Gl X x) (hm : X.mg x = some (.ref f)) (hk : PySem.W.keepIn X.K (.ref f) = true) (hb : Binds X.K fd ps []) (ha : PA X (e :: es) t) (hdb : (x == ("__debug__" : Str)) = false := by decide)
    (he : starEach (e :: es) X.env = (false, eval e X.env) :: starEach es X.env := by rfl) (hpl : (backTo pos (starEach es X.env)).any (·.1) = false := by rfl) : PE X (.Call (.Name x q) (e :: es) [] pos) (tCall sp [] E0 t) := by
  refine ⟨fun pins s σ H Q J h => wpAny_Call_Name_kw (ld_glob J hg hm ?_ hdb)⟩
  refine PySem.W.callWith_K (h₀ := X.base) J.ok.mod.kin hk (thn (ha.run pos pins s σ H _ J h) fun us s1 ⟨vs, H1, J1, r, z⟩ => ⟨J1.kIn, ?_⟩) he hpl
  have z' : sp vs H1 Q E0 := by
    rw [← List.append_nil vs]
    exact z
  have hl : us.length = ps.length := by
    rw [← r.length]
    exact F.len _ _ _ _ z'
  have b := hb s1 us J1.kIn (by rw [List.append_nil]; exact hl)
  rw [List.append_nil] at b
  refine wpAny_call (codeAny_mono (F.run X.A X.stack s1 H1 ⟨us, []⟩ us vs Q E0 hr J1.env0 b r z') fun fl s' hq => ?_)
  cases fl with
  | error e => exact (show False from hq).elim
  | ok fl =>
    cases fl with
    | ret u => exact J1.after hq
    | next => exact hq.elim
    | brk => exact hq.elim
    | cont => exact hq.elim
end
end Xa
set_option linter.all false
/-! exceptions of one's own over one's own base without __init__: made, raised, held, asked -/
namespace Xb
open PySem PySem.Spec PyProof.Rows L2 Xa
/-- what the written part says of such a class -/
structure Err (K : PySem.W.Frag) (C : Addr) : Prop where
  ox : OexC K C
  ga : PySem.W.findIn K (.ref C) "__getattribute__" = some (some (.builtin "BaseException.__getattribute__"))
  gg : PySem.W.findIn K (.ref C) "__getattr__" = some none
  hd : PySem.W.hasDictIn K C = true
  ca : PySem.W.findIn K (.ref C) "__class__" = some (some (.builtin "object.__class__"))
  ob : PySem.W.mroIn K C (.type "object") = some true
  ss : PySem.W.subIn K (.ref C) (.ref C) = some true
  ve : PySem.W.subIn K (.ref C) (.type "ValueError") = some true
/-- a class that is asked for -/
structure Cld (K : PySem.W.Frag) (D : Addr) : Prop where
  cl : PySem.W.isClsIn K D = true
  ty : PySem.W.typeIn K (.ref D) = some (.type "type")
  be : PySem.W.subIn K (.ref D) (.type "BaseException") = some true
structure KG (K : PySem.W.Frag) : Prop where
  get : PySem.W.specialIn K (.builtin "object.__class__") "__get__" = some (some (.builtin "getset_descriptor.__get__"))
  tak : PySem.W.takesIn K (.builtin "object.__class__") = some true
theorem Err.cl {K : PySem.W.Frag} {C : Addr} (T : Err K C) : (PySem.W.clsIn K C).isSome = true := by
  obtain ⟨nm, q, N, bs, bm, sn, sub, ab, col, dd, k0, k1, k2, k3, k5, hC, hbm⟩ := T.ox.cls
  unfold PySem.W.clsIn
  rw [hC]
  rfl
theorem Err.cld {K : PySem.W.Frag} {C : Addr} (T : Err K C) : Cld K C := ⟨T.cl, T.ox.tyC, T.ox.exC⟩
theorem kit_is {K : PySem.W.Frag} {C : Addr} : PySem.W.kitOne K (.ref C) (.ref C) = some true := if_pos (by simp)
theorem cls_is {K : PySem.W.Frag} {C D : Addr} {b : Bool} (D' : Cld K D) (h : PySem.W.subIn K (.ref C) (.ref D) = some b) : PySem.W.kitCls K (.ref C) (.ref D) = some b := by
  show (if (PySem.W.isClsIn K D && PySem.W.typeIn K (.ref D) == some (.type "type")) = true then PySem.W.subIn K (.ref C) (.ref D) else none) = some b
  rw [D'.cl, D'.ty]
  exact h
theorem kit_no {K : PySem.W.Frag} {C D : Addr} (T : Err K C) (D' : Cld K D) (h : PySem.W.subIn K (.ref C) (.ref D) = some false) : PySem.W.kitOne K (.ref C) (.ref D) = some false := by
  have ne : ((Value.ref C) == (Value.ref D)) = false := by
    refine beq_eq_false_iff_ne.mpr fun z => ?_
    rw [← z, T.ss] at h
    cases h
  unfold PySem.W.kitOne
  rw [ne]
  exact cls_is D' h
theorem kit_yes {K : PySem.W.Frag} {C D : Addr} (D' : Cld K D) (h : PySem.W.subIn K (.ref C) (.ref D) = some true) : PySem.W.kitOne K (.ref C) (.ref D) = some true := by
  unfold PySem.W.kitOne
  by_cases z : ((Value.ref C) == (Value.ref D)) = true
  · rw [if_pos z]
  · rw [if_neg z]
    exact cls_is D' h
theorem kit_ve {K : PySem.W.Frag} {C : Addr} (T : Err K C) : PySem.W.kitOne K (.ref C) (.type "ValueError") = some true := by
  unfold PySem.W.kitOne
  rw [if_neg (by simp)]
  show (if PySem.W.kitMeta "ValueError" = true then PySem.W.subIn K (.ref C) (.type "ValueError") else none) = some true
  rw [if_pos (by decide +kernel)]
  exact T.ve
/-- a clause that names D, of an exception of C -/
theorem exm_of {K : PySem.W.Frag} {C D : Addr} {b : Bool} (D' : Cld K D) (h : PySem.W.subIn K (.ref C) (.ref D) = some b) : PySem.W.exmOne K (.ref C) (.ref D) = some b := by
  unfold PySem.W.exmOne
  rw [D'.be, if_pos (by rfl)]
  exact cls_is D' h
/-- an exception of the class at C, held at a, with its dict -/
structure ErrAt (H : Hp) (a C d : Addr) (fs : List (Str × V)) : Prop where
  at_ : ∃ oe, H a = some (pin a oe) ∧ Zc (.ref C) (some d) oe ∧ ∃ vs, oe.data = .fields vs
  dict : H d = some (.xd fs)
theorem ErrAt.same {H H' : Hp} {a C d : Addr} {fs : List (Str × V)} (h : ErrAt H a C d fs) (s : Same H H') : ErrAt H' a C d fs := ⟨let ⟨oe, e, z⟩ := h.at_; ⟨oe, s _ _ e, z⟩, s _ _ h.dict⟩
section
variable {X : Cx} {pins : List (Addr × Obj)} {σ : L2.St} {H : Hp} {s : Shared}
theorem ErrAt.inst {a C d : Addr} {fs : List (Str × V)} (J : L2.Inv X pins σ H s) (h : ErrAt H a C d fs) : ∃ ox od, PySem.W.InstAt s.heap a ox C (some od) ∧ ∀ f v, fs.lookup f = some v → ∃ u, PySem.W.lookIn f od = some (some u) ∧ RelV v u := by
  obtain ⟨oe, e, z, vs, hd⟩ := h.at_
  have g := pin_get J.hok e
  obtain ⟨mA, hns, hr⟩ := (show ObjOk X.prog X.w H s.heap d (.xd fs) from J.hok d _ h.dict)
  obtain ⟨od, ho, hl⟩ := lookIn_ns hns
  refine ⟨oe, od, ⟨g, z.1, by unfold PySem.W.notCls; rw [hd] <;> rfl, by rw [z.2]; exact ho⟩, fun f v l => ?_⟩
  obtain ⟨u, hu, ru⟩ := RelO.some_of (v := v) (o := mA f) (by rw [← l]; exact hr f)
  exact ⟨u, by rw [hl, hu], ru⟩
/-- isinstance(x, C) and isinstance(x, (C, ..)) of an exception that is held -/
def rIsE (K : PySem.W.Frag) : List V → Hp → VK → Prop := fun xs H Q => ∃ (a C d : Addr) (fs : List (Str × V)) (c : V) (u : Value) (b : Bool), xs = [.ref a, c] ∧ Err K C ∧ KG K ∧ ErrAt H a C d fs ∧ ClsV c u ∧ PySem.W.kitOne K (.ref C) u = some b ∧ Q (.bl b) H
def rIsET (K : PySem.W.Frag) : List V → Hp → VK → Prop := fun xs H Q => ∃ (a C d tp : Addr) (fs : List (Str × V)) (cs : List V) (us : List Value) (b : Bool), xs = [.ref a, .ref tp] ∧ H tp = some (.tup cs) ∧ Err K C ∧ KG K ∧ ErrAt H a C d fs ∧ Paired ClsV cs us ∧ PySem.W.kitAny K (.ref C) us = some b ∧ Q (.bl b) H
theorem call_isE : CallR X (.builtin "isinstance") (rIsE X.K) := by
  intro pins s σ H xs us Q J r h
  obtain ⟨a, C, d, fs, c, u, b, rfl, T, G, ea, k, e, q⟩ := h
  obtain ⟨u1, u2, rfl, r1, r2⟩ := vals2 r
  cases r1
  have e2 := k.eq r2
  subst e2
  obtain ⟨ox, od, ii, _⟩ := ea.inst J
  exact PySem.W.kia_one (PySem.W.kitx_exc (od := some od) (ox := ox) T.cl T.ga T.gg T.ox.exC T.ca G.get G.tak T.ob) J.kIn ii e (fun z => nomatch z) fun tk => ⟨.bl b, H, J.tok tk, rfl, q⟩
theorem call_isET : CallR X (.builtin "isinstance") (rIsET X.K) := by
  intro pins s σ H xs us Q J r h
  obtain ⟨a, C, d, tp, fs, cs, ws, b, rfl, hT, T, G, ea, k, e, q⟩ := h
  obtain ⟨u1, u2, rfl, r1, r2⟩ := vals2 r
  cases r1
  cases (show u2 = Value.ref tp from r2)
  obtain ⟨ox, od, ii, _⟩ := ea.inst J
  obtain ⟨_, its, rv, o, h1, h2, n, h3⟩ := (show ObjOk X.prog X.w H s.heap tp (.tup cs) from J.hok tp _ hT)
  have e3 := ClsV.all k rv
  subst e3
  obtain ⟨oc, ob, dt, sl⟩ := o
  simp only at h2 h3
  subst h2 h3
  exact PySem.W.kia_tup (PySem.W.kitx_exc (od := some od) (ox := ox) T.cl T.ga T.gg T.ox.exC T.ca G.get G.tak T.ob) J.kIn ii h1 e (fun z => nomatch z) fun tk => ⟨.bl b, H, J.tok tk, rfl, q⟩
/-- e.f of an exception that is held -/
def tBy (K : PySem.W.Frag) (f : Str) (te : TE) : TE := fun σ H Q => te σ H fun x H1 => ∃ (a C d : Addr) (fs : List (Str × V)) (v : V), x = .ref a ∧ Err K C ∧ ErrAt H1 a C d fs ∧ PySem.W.findIn K (.ref C) f = some none ∧ fs.lookup f = some v ∧ Q v H1
theorem pe_by {e : Expr} {te : TE} {f : Str} {pos : Pos} (he : PE X e te) (hb : attributeBase e f X.env (eval e X.env) = eval e X.env := by rfl) : PE X (.Attribute e f pos) (tBy X.K f te) := by
  refine ⟨fun pins s σ H Q J h => attr_of hb (thn (he.run pins s σ H _ J h) fun u s1 hh => ?_)⟩
  obtain ⟨x, H1, J1, rx, a, C, d, fs, v, rfl, T, ea, no, l, q⟩ := hh
  obtain rfl : u = Value.ref a := rx
  obtain ⟨ox, od, ii, hl⟩ := ea.inst J1
  obtain ⟨u, hu, ru⟩ := hl f v l
  exact HandSPX.exc_get J1.kIn ii T.ga T.gg T.ox.exC (PySem.W.findObj_own T.hd no rfl hu) (handed_of ru) ⟨v, H1, J1.tok _, ru, q⟩
end
/-! ### Base.__init__(self, ..), Base a class of one's own without __init__ -/
structure Base (K : PySem.W.Frag) (B : Addr) : Prop where
  sp : PySem.W.specialIn K (.ref B) "__getattribute__" = some (some (.builtin "type.__getattribute__"))
  rd : PySem.W.readsIn K B (.type "type") = true
  fi : PySem.W.findCls K (.ref B) (.type "type") "__init__" = some (.val (.builtin "ValueError.__init__"))
section
variable {X : Cx} {e : Expr} {es : List Expr} {ta : TA} {x f : Str} {B C fI : Addr} {p p1 p2 pos : Pos}
theorem pe_base {pl : Sem Bool} (T : Base X.K B) (hg : Gl X x) (hm : X.mg x = some (.ref B)) (ha : PA X (e :: es) ta) (hdb : (x == ("__debug__" : Str)) = false := by decide)
    (hc : eval (.Call (.Attribute (.Name x p1) "__init__" p2) (e :: es) [] pos) X.env = (do
      let ov ← eval (.Name x p1) X.env
      standAt p2.atName
      let (f, first) ← holding [ov] (getMethod ov "__init__" pl)
      callWith pos f first (backTo pos (starEach (e :: es) X.env)) (backToKw pos (keywordEach [] X.env))) := by rfl)
    (he : starEach (e :: es) X.env = (false, eval e X.env) :: starEach es X.env := by rfl) (hpl : (backTo pos (starEach es X.env)).any (·.1) = false := by rfl) :
    PE X (.Call (.Attribute (.Name x p1) "__init__" p2) (e :: es) [] pos) (tVeI X.K ta) := by
  refine ⟨fun pins s σ H Q J h => PySem.W.methodCall_KW (ld_glob J hg hm ?_ hdb) hc⟩
  refine PySem.W.method_cls J.kIn T.sp (PySem.W.cls_value J.kIn T.rd T.fi rfl ?_)
  refine PyProof.Rows.callWith_method1 (thn (ha.run pos pins _ σ H _ (J.tok _) h) fun us s1 hh => ?_) he hpl
  obtain ⟨vs, H1, J1, r1, a, C, ws, rfl, hl, O, ea, q⟩ := hh
  cases r1 with
  | @cons _ u0 _ ur ra rw' =>
    obtain rfl : u0 = Value.ref a := ra
    exact oinit_ok O J1 ea (by rw [← Paired.length rw', sizeLine_eq]; omega) fun s' J2 => ⟨.non, H1, J2, rfl, q⟩
/-- what an __init__ with one field promises -/
def spIni (K : PySem.W.Frag) (f : Str) : Sp := fun vs H Q _ => ∃ (a C : Addr) (v : V), vs = [.ref a, v] ∧ OexC K C ∧ PySem.W.findIn K (.ref C) f = some none ∧ H a = some (exo a C none) ∧ ∀ dx, H dx = none → dx ≠ a → Q .non (upd (upd H dx (exd dx [(f, v)])) a (exo a C (some dx)))
theorem pmk_err {CX : CXT} {k : Nat} {fd : FuncData} {ps : List Str} (T : Err X.K C) (_no : PySem.W.findIn X.K (.ref C) f = some none) (iC : PySem.W.findIn X.K (.ref C) "__init__" = some (some (.ref fI))) (tI : PySem.W.typeIn X.K (.ref fI) = some (.type "function"))
    (F : FnOk X.prog X.w X.K X.mg X.base CX k fI fd ps (spIni X.K f)) (hr : Room (k + 1) X.A) (hb : Binds X.K fd ps []) (hx : Passes CX X (fun _ _ _ => False)) (hg : Gl X x) (hm : X.mg x = some (.ref C)) (ha : PA X [e] ta)
    (hdb : (x == ("__debug__" : Str)) = false := by decide) (he : starEach [e] X.env = (false, eval e X.env) :: starEach [] X.env := by rfl) (hpl : (backTo pos (starEach [] X.env)).any (·.1) = false := by rfl) :
    PMk X (.Call (.Name x p) [e] [] pos) (tMkO C (spIni X.K f) [] ta) := pmk_oex T.ox iC tI F hr hb .nil hx hg hm ha hdb he hpl
/-- C(e), C with one field: what is asked behind e -/
theorem err_end {K : PySem.W.Frag} {H1 : Hp} {v : V} {Q : XK} (O : OexC K C) (no : PySem.W.findIn K (.ref C) f = some none) (h : ∀ d, H1 d = none → Q (.ref C) (some d) (upd H1 d (.xd [(f, v)]))) :
    [v].length ≤ 1000 ∧ ∀ a, H1 a = none → spIni K f (.ref a :: ([v] ++ [])) (upd H1 a (exo a C none))
      (fun u H2 => u = .non ∧ ∃ (d : Addr) (fs : List (Str × V)), H2 a = some (exo a C (some d)) ∧ H2 d = some (exd d fs) ∧ H1 d = none ∧ Q (.ref C) (some d) (upd (del H2 a) d (.xd fs))) (fun _ _ _ => False) := by
  refine ⟨by show 1 ≤ 1000; decide, fun a na => ⟨a, C, v, rfl, O, no, upd_same, fun dx nd ne => ⟨rfl, dx, [(f, v)], upd_same, ?_, ?_, ?_⟩⟩⟩
  · rw [upd_ne ne]
    exact upd_same
  · rw [upd_ne ne] at nd
    exact nd
  · have nd' : H1 dx = none := by
      rw [upd_ne ne] at nd
      exact nd
    have q := h dx nd'
    have eq : upd (del (upd (upd (upd H1 a (exo a C none)) dx (exd dx [(f, v)])) a (exo a C (some dx))) a) dx (.xd [(f, v)]) = upd H1 dx (.xd [(f, v)]) := by
      funext b
      by_cases hb : b = dx
      · rw [hb, upd_same, upd_same]
      · rw [upd_ne hb, upd_ne hb]
        by_cases ha : b = a
        · rw [ha, del_same, na]
        · rw [del_ne ha, upd_ne ha, upd_ne hb, upd_ne ha]
    rw [eq]
    exact q
end
end Xb
namespace Xb
open PySem PySem.Spec PyProof.Rows L2 Xa
theorem kit_none {K : PySem.W.Frag} {C : Addr} : ∀ {l : List Addr}, (∀ D ∈ l, PySem.W.kitOne K (.ref C) (.ref D) = some false) → PySem.W.kitAny K (.ref C) (l.map Value.ref) = some false
  | [], _ => rfl
  | D :: l, h => by
    show (match PySem.W.kitOne K (.ref C) (.ref D) with
      | some true => some true
      | some false => PySem.W.kitAny K (.ref C) (l.map Value.ref)
      | none => none) = _
    rw [h D (by simp)]
    exact kit_none fun D' hD => h D' (List.mem_cons_of_mem _ hD)
theorem kit_pair : ∀ {l : List Addr}, Paired ClsV (l.map V.ref) (l.map Value.ref)
  | [] => .nil
  | _ :: _ => .cons (.own _) kit_pair
theorem errAt_new {H : Hp} {a d C : Addr} {oe : Obj} {fs : List (Str × V)} (n : H a = none) (e : H d = some (.xd fs)) (z : Zc (.ref C) (some d) oe) (hv : ∃ vs, oe.data = .fields vs) : ErrAt (upd H a (pin a oe)) a C d fs :=
  ⟨⟨oe, upd_same, z, hv⟩, by rw [upd_ne (ne_of_none e n)]; exact e⟩
end Xb
set_option linter.all false
/-! xs.extend(t), max(t), min(t), t a tuple -/
namespace Xt
open PySem PySem.Spec PyProof.Rows L2
section
open PySem.Calls PySem.MeetsSeq
open AutoSeq1 (wpAny_loadPart')
theorem ext_tup (l : Addr) (xs : Array Value) (n : Nat) (b : Addr) (ys : Array Value) (m : Nat) (od : Option Addr) (sl : Array (Option Value)) (h0 : ¬(!xs.isEmpty && Builtin.List.listTooLong (xs.size + ys.size)) = true) (h1 : xs.size ≤ sizeLine) (h2 : xs.size + ys.size ≤ sizeLine + 1) :
    Meets (Builtin.«list.extend» ⟨[.ref l, .ref b], []⟩) (fun _ R s => s.heap.get? l = some { cls := .type "list", dict := none, data := .seq xs n, slots := #[] } ∧ s.heap.get? b = some { cls := .type "tuple", dict := od, data := .seq ys m, slots := sl } ∧ R (.ok (.ret Value.none)) { s with heap := s.heap.update l (Obj.mapSeq fun x => x ++ ys), toks := s.toks }) :=
  .of_wp fun prog w A R s h => by
    obtain ⟨hp, g, d, tk, os⟩ := s
    obtain ⟨hl, hb, h⟩ := h
    have g2 := AutoSeq1.sub_tuple_tuple
    have g3 := AutoSeq1.sub_list_list
    have g4 := AutoSeq1.sub_tuple_list
    have g5 := AutoSeq1.sub_list_tuple
    have hz' : (xs ++ ys).size ≤ sizeLine + 1 := by rw [Array.size_append]; exact h2
    wp_walk using (wpAny_updateSeq hl rfl (hz := h1) (_hz' := hz')), wpAny_loadPart' hl, wpAny_loadPart' hb
    exact ⟨_, rfl, h⟩
end
def rExtT : V → List V → Hp → VK → Prop := fun x vs H Q => ∃ l b xs zs, x = .ref l ∧ vs = [.ref b] ∧ H l = some (.lst xs) ∧ H b = some (.tup zs) ∧ xs.length + zs.length ≤ sizeLine ∧ Q .non (upd H l (.lst (xs ++ zs)))
theorem mt_extT {X : Cx} : MtM X "list.extend" rExtT := by
  intro pins s σ H x vs v us Q J rx rv h
  obtain ⟨l, b, xs, zs, rfl, rfl, hl, hb, hz, q⟩ := h
  cases rx
  obtain ⟨u, rfl, ru⟩ := rv.one
  cases ru
  obtain ⟨z, its, n, r, hl2, e⟩ := J.lstM hl
  obtain ⟨z2, i2, r2, ⟨oc, od, dt, sl⟩, e2, c2, n2, d2⟩ := (show ObjOk X.prog X.w H s.heap b (.tup zs) from J.hok b _ hb)
  simp only at c2 d2
  subst c2 d2
  have sz : its.toArray.size + i2.toArray.size ≤ sizeLine := by
    have := r2.length
    rw [List.size_toArray, List.size_toArray]
    omega
  have lg : ¬ (!its.toArray.isEmpty && Builtin.List.listTooLong (its.toArray.size + i2.toArray.size)) = true := by
    rw [notLongL sz, Bool.and_false]
    exact Bool.false_ne_true
  refine call_meets F.slot_list_extend ⟨_, e, rfl⟩ F.entry_list_extend (F.args_list_extend_2 _ _) (ext_tup l its.toArray n b i2.toArray n2 od sl lg (by rw [List.size_toArray]; omega) (by omega)) ⟨e, e2, ?_⟩
  exact ⟨.non, _, J.lset (its' := its ++ i2) hl e (by simp) (r.append r2) (by rw [List.length_append]; omega), rfl, q⟩
section
variable {prog : Program} {w : World} {A : Around} {E : Value → Shared → Prop} {s : Shared} {ns : List Int} {t : Addr} {its : List Value}
theorem old_of {I : Addr} {h h' : Heap} {o0 : Obj} (e : I = h.objs.size) (k : ∀ b o, b ∉ [I] → (h.push o0).get? b = some o → h'.get? b = some o) : ∀ b o, h.get? b = some o → h'.get? b = some o := fun b o q =>
  k b o (fun z => by rw [List.mem_singleton.mp z, e] at q; exact absurd (Heap.lt_size q) (Nat.lt_irrefl _)) (Heap.get?_push_of_some _ q)
theorem max_tup (hh : A.handled = none) (hl : s.heap.IsTuple t its.toArray) (hi : IntsAre its ns) (hne : 0 < ns.length)
    (h : ∀ h' tk M t', (∀ b o, s.heap.get? b = some o → h'.get? b = some o) → M ∈ ns → (∀ a, a ∈ ns → a ≤ M) → Q (.int M t') { s with heap := h', toks := tk }) : wpAny (model prog w) A (call (.builtin "max") [.ref t]) Q E s := by
  obtain ⟨xs, e⟩ := hi.allInts.items
  have hn : numsOf (intItems xs).toList = ns := by rw [← e]; exact hi.numsOf
  rw [nums_intItems] at hn
  subst hn
  rw [e] at hl
  have lt : t < s.heap.objs.size := by
    obtain ⟨_, g, _⟩ := hl
    exact Heap.lt_size g
  have hsz : 0 < xs.size := by simpa using hne
  refine call_max_walk (wpAny_pyIter_tuple hl ?_)
  refine ⟨_, _, _, _, _, _, _, rfl, Walks.tuple (A := A.in1) hh s.heap.objs.size t (Nat.ne_of_lt lt) (intItems xs), ⟨⟨_, Heap.get?_push_size _ rfl, rfl, rfl⟩, ?_⟩, fun b hb => ?_, by simpa [intItems] using hsz, CmpOf.ints_gt (numAt xs) (fun _ _ => intItems_at), fun v h' tk hP hk => ?_⟩
  · obtain ⟨o, g, c, n, d⟩ := hl
    exact ⟨o, Heap.get?_push_of_some _ g, c, n, d⟩
  · show b < (s.heap.push _).objs.size
    rw [Heap.size_push]
    rcases List.mem_cons.mp hb with rfl | hb
    · exact Nat.lt_succ_self _
    · rw [List.mem_singleton.mp hb]
      exact Nat.lt_succ_of_lt lt
  · have hv : (intItems xs)[argBest (fun i j => decide (numAt xs i > numAt xs j)) (xs.size - 1)]? = some v := by simpa [intItems] using hP
    obtain ⟨t', rfl⟩ := intItems_at hv
    obtain ⟨h1, h2⟩ := argBest_gt (numAt xs) (xs.size - 1)
    refine h h' tk _ t' (old_of rfl hk) ?_ fun a ha => ?_
    · rw [numAt_eq]
      exact PySem.getD_mem (by rw [List.length_map, Array.length_toList]; omega)
    · obtain ⟨j, hj, rfl⟩ := mem_getD ha
      rw [List.length_map, Array.length_toList] at hj
      rw [← numAt_eq]
      exact h2 j (by omega)
theorem min_tup (hh : A.handled = none) (hl : s.heap.IsTuple t its.toArray) (hi : IntsAre its ns) (hne : 0 < ns.length)
    (h : ∀ h' tk M t', (∀ b o, s.heap.get? b = some o → h'.get? b = some o) → M ∈ ns → (∀ a, a ∈ ns → M ≤ a) → Q (.int M t') { s with heap := h', toks := tk }) : wpAny (model prog w) A (call (.builtin "min") [.ref t]) Q E s := by
  obtain ⟨xs, e⟩ := hi.allInts.items
  have hn : numsOf (intItems xs).toList = ns := by rw [← e]; exact hi.numsOf
  rw [nums_intItems] at hn
  subst hn
  rw [e] at hl
  have lt : t < s.heap.objs.size := by
    obtain ⟨_, g, _⟩ := hl
    exact Heap.lt_size g
  have hsz : 0 < xs.size := by simpa using hne
  refine call_min_walk (wpAny_pyIter_tuple hl ?_)
  refine ⟨_, _, _, _, _, _, _, rfl, Walks.tuple (A := A.in1) hh s.heap.objs.size t (Nat.ne_of_lt lt) (intItems xs), ⟨⟨_, Heap.get?_push_size _ rfl, rfl, rfl⟩, ?_⟩, fun b hb => ?_, by simpa [intItems] using hsz, CmpOf.ints_lt (numAt xs) (fun _ _ => intItems_at), fun v h' tk hP hk => ?_⟩
  · obtain ⟨o, g, c, n, d⟩ := hl
    exact ⟨o, Heap.get?_push_of_some _ g, c, n, d⟩
  · show b < (s.heap.push _).objs.size
    rw [Heap.size_push]
    rcases List.mem_cons.mp hb with rfl | hb
    · exact Nat.lt_succ_self _
    · rw [List.mem_singleton.mp hb]
      exact Nat.lt_succ_of_lt lt
  · have hv : (intItems xs)[argBest (fun i j => decide (numAt xs i < numAt xs j)) (xs.size - 1)]? = some v := by simpa [intItems] using hP
    obtain ⟨t', rfl⟩ := intItems_at hv
    obtain ⟨h1, h2⟩ := argBest_lt (numAt xs) (xs.size - 1)
    refine h h' tk _ t' (old_of rfl hk) ?_ fun a ha => ?_
    · rw [numAt_eq]
      exact PySem.getD_mem (by rw [List.length_map, Array.length_toList]; omega)
    · obtain ⟨j, hj, rfl⟩ := mem_getD ha
      rw [List.length_map, Array.length_toList] at hj
      rw [← numAt_eq]
      exact h2 j (by omega)
end
/-- max(t), min(t) of a tuple of numbers -/
def rMaxT (K : PySem.W.Frag) : List V → Hp → VK → Prop := fun vs H Q => ∃ (a : Addr) (ns : List Int), vs = [V.ref a] ∧ H a = some (.tup (ns.map V.int)) ∧ 0 < ns.length ∧ ∀ m, m ∈ ns → (∀ y, y ∈ ns → y ≤ m) → Q (.int m) H
def rMinT (K : PySem.W.Frag) : List V → Hp → VK → Prop := fun vs H Q => ∃ (a : Addr) (ns : List Int), vs = [V.ref a] ∧ H a = some (.tup (ns.map V.int)) ∧ 0 < ns.length ∧ ∀ m, m ∈ ns → (∀ y, y ∈ ns → m ≤ y) → Q (.int m) H
theorem tup_at {X : Cx} {pins : List (Addr × Obj)} {σ : L2.St} {H : Hp} {s : Shared} {a : Addr} {ns : List Int} (J : L2.Inv X pins σ H s) (ha : H a = some (.tup (ns.map V.int))) : ∃ its : List Value, IntsAre its ns ∧ s.heap.IsTuple a its.toArray := by
  obtain ⟨_, its, rv, o, h1, h2, n, h3⟩ := (show ObjOk X.prog X.w H s.heap a (.tup (ns.map V.int)) from J.hok a _ ha)
  exact ⟨its, rv.ints, o, h1, h2, n, h3⟩
theorem cr_maxT {X : Cx} (hc : X.calm = true) : CallR X (.builtin "max") (rMaxT X.K) := by
  intro pins s σ H vs us Q J r h
  obtain ⟨a, ns, rfl, ha, hne, q⟩ := h
  obtain ⟨its, hi, ht⟩ := tup_at J ha
  rw [Vals.ref1 r]
  exact max_tup (J.ok.hd hc) ht hi hne fun h' tk m t' hk h1 h2 => ⟨.int _, H, J.kept hk, ⟨_, rfl⟩, q m h1 h2⟩
theorem cr_minT {X : Cx} (hc : X.calm = true) : CallR X (.builtin "min") (rMinT X.K) := by
  intro pins s σ H vs us Q J r h
  obtain ⟨a, ns, rfl, ha, hne, q⟩ := h
  obtain ⟨its, hi, ht⟩ := tup_at J ha
  rw [Vals.ref1 r]
  exact min_tup (J.ok.hd hc) ht hi hne fun h' tk m t' hk h1 h2 => ⟨.int _, H, J.kept hk, ⟨_, rfl⟩, q m h1 h2⟩
end Xt
set_option linter.all false
/-! {k: v} with a tuple of ints and texts for k -/
namespace Dt
open PySem PySem.Spec PyProof.Rows L2
/-- {k: v}: the new dict stands empty while the pair is made -/
def tDisp1 (tk tv : TE) : TE := fun σ H Q => ∀ p, H p = none → tk σ (upd H p (.dT [])) fun x H1 => tv σ H1 fun y H2 => H2 p = some (.dT []) ∧ ∃ (b : Addr) (k : List L2.Key), x = .ref b ∧ H2 b = some (.tup (k.map kV)) ∧ Q (.ref p) (upd H2 p (.dT [(k, y)]))
theorem pe_disp1 {X : Cx} {pos : Pos} {ke ve : Expr} {tk tv : TE} (hu : X.A.units + 1 < cLine) (hk : PE X ke tk) (hv : PE X ve tv) : PE X (.Dict [some ke] [ve] pos) (tDisp1 tk tv) := by
  refine ⟨fun pins s σ H Q I q => ?_⟩
  have hn := I.hok.fresh (Nat.le_refl s.heap.objs.size)
  have I1 := I.laid (a := s.heap.objs.size) (o := .dT []) (h' := s.heap.push { cls := .type "dict", data := .dict #[] }) (t' := s.toks) (fun _ _ q => Heap.get?_push_of_some _ q) (Nat.le_refl _) (dt_empty s.heap I.big)
  rw [arm_eval_Dict, zip_pairTrees [some ke] [ve] X.env pos rfl rfl, dictDisplay_pairs (pairTrees [some ke] [ve] X.env pos) (by simp [pairTrees]) (by simp [pairTrees])]
  refine wpAny_bind (wpAny_standAt (wpAny_bind ?_))
  unfold subDict
  refine wpAny_bind (wpAny_alloc ?_)
  refine wpAny_bind (wpAny_holding ?_)
  rw [if_pos (by simp [pairTrees])]
  refine wpAny_bind (pairTrees_cons_walk (thn (hk.run pins _ σ _ _ I1 (q _ hn)) fun u s1 ⟨x, H1, I2, rx, q1⟩ => thn (hv.run pins s1 σ H1 _ I2 q1) fun v s2 ⟨y, H2, I3, ry, e, b, k, ex, eb, q2⟩ => pairTrees_nil_walk ?_))
  subst ex
  obtain rfl : u = Value.ref b := rx
  obtain ⟨z, hd, xs, rel, dd⟩ := dt_of I3.hok e
  cases rel
  refine wpAny_holding ?_
  refine wpAny_bind ?_
  rw [List.forIn_cons]
  refine wpAny_bind (wpAny_bind (wpAny_dictSet_heap (hsz := by show 0 ≤ sizeLine; decide) ?_ (key_of I3.hok eb) dd fun h' dd' hs => wpAny_pure ?_))
  · show X.A.units < cLine
    omega
  · dsimp only
    rw [List.forIn_nil]
    refine wpAny_pure (wpAny_pure (wpAny_pure (wpAny_pure ?_)))
    obtain ⟨o, es, ep, hq, h2, h3, h4, _, h5⟩ := dd'
    refine ⟨.ref s.heap.objs.size, _, d_write (ob := .dT [(k, y)]) I3 (by rw [e]; exact True.intro) hs ⟨o, hq⟩ ⟨?_, hd, _, (KT.put (kvs := []) (xs := []) .nil k eb ry).keeps fun c ys ec => ?_, o, es, ep, hq, h2, h3, h4, h5⟩, rfl, q2⟩
    · show 1 ≤ sizeLine; decide
    · rw [upd_ne (ne_of ec e (fun z => nomatch z))]
      exact ec
end Dt
namespace Kp
open PySem L2
def top (i : Nat) : Stmt := PySem.Challenge.pw_fairposts_k85_round_and_round.main.body.getD i (.Pass ⟨0, 0, 0, 0⟩)
abbrev s_is_whole : Stmt := top 10
def N_is_whole : List Str := ["thing"]
theorem sc_is_whole : FnScope ["thing"] ["thing"] (defScope s_is_whole) := ⟨rfl, rfl, rfl, by decide +kernel, rfl, by decide +kernel, by decide +kernel⟩
abbrev s_is_prime : Stmt := top 11
def N_is_prime : List Str := ["thing"]
theorem sc_is_prime : FnScope ["thing"] ["thing"] (defScope s_is_prime) := ⟨rfl, rfl, rfl, by decide +kernel, rfl, by decide +kernel, by decide +kernel⟩
abbrev s_is_round : Stmt := top 12
def N_is_round : List Str := ["p", "thing"]
theorem sc_is_round : FnScope ["p", "thing"] ["p", "thing"] (defScope s_is_round) := ⟨rfl, rfl, rfl, by decide +kernel, rfl, by decide +kernel, by decide +kernel⟩
abbrev s_inverse : Stmt := top 13
def N_inverse : List Str := ["p", "number", "worth", "step"]
theorem sc_inverse : FnScope ["p", "number", "worth", "step"] ["p", "number"] (defScope s_inverse) := ⟨rfl, rfl, rfl, by decide +kernel, rfl, by decide +kernel, by decide +kernel⟩
abbrev s_is_pair : Stmt := top 15
def N_is_pair : List Str := ["p", "thing"]
theorem sc_is_pair : FnScope ["p", "thing"] ["p", "thing"] (defScope s_is_pair) := ⟨rfl, rfl, rfl, by decide +kernel, rfl, by decide +kernel, by decide +kernel⟩
abbrev s_is_row : Stmt := top 16
def N_is_row : List Str := ["p", "posts", "thing", "pair"]
theorem sc_is_row : FnScope ["p", "posts", "thing", "pair"] ["p", "posts", "thing"] (defScope s_is_row) := ⟨rfl, rfl, rfl, by decide +kernel, rfl, by decide +kernel, by decide +kernel⟩
abbrev s_nought : Stmt := top 17
def N_nought : List Str := ["posts"]
theorem sc_nought : FnScope ["posts"] ["posts"] (defScope s_nought) := ⟨rfl, rfl, rfl, by decide +kernel, rfl, by decide +kernel, by decide +kernel⟩
abbrev s_added : Stmt := top 18
def N_added : List Str := ["p", "one", "other", "a", "b", "c", "d"]
theorem sc_added : FnScope ["p", "one", "other", "a", "b", "c", "d"] ["p", "one", "other"] (defScope s_added) := ⟨rfl, rfl, rfl, by decide +kernel, rfl, by decide +kernel, by decide +kernel⟩
abbrev s_times : Stmt := top 19
def N_times : List Str := ["p", "number", "row", "push", "answer"]
theorem sc_times : FnScope ["p", "number", "row", "push", "answer"] ["p", "number", "row"] (defScope s_times) := ⟨rfl, rfl, rfl, by decide +kernel, rfl, by decide +kernel, by decide +kernel⟩
abbrev s_meet : Stmt := top 20
def N_meet : List Str := ["p", "one", "other", "a", "b", "c", "d"]
theorem sc_meet : FnScope ["p", "one", "other", "a", "b", "c", "d"] ["p", "one", "other"] (defScope s_meet) := ⟨rfl, rfl, rfl, by decide +kernel, rfl, by decide +kernel, by decide +kernel⟩
abbrev s_flat_of : Stmt := top 22
def N_flat_of : List Str := ["row", "pair", "number"]
theorem sc_flat_of : FnScope ["row", "pair", "number"] ["row"] (defScope s_flat_of) := ⟨rfl, rfl, rfl, by decide +kernel, rfl, by decide +kernel, by decide +kernel⟩
abbrev s_row_of : Stmt := top 23
def N_row_of : List Str := ["flat", "place"]
theorem sc_row_of : FnScope ["flat", "place"] ["flat"] (defScope s_row_of) := ⟨rfl, rfl, rfl, by decide +kernel, rfl, by decide +kernel, by decide +kernel⟩
abbrev s_first_place : Stmt := top 24
def N_first_place : List Str := ["flat", "place", "number"]
theorem sc_first_place : FnScope ["flat", "place", "number"] ["flat"] (defScope s_first_place) := ⟨rfl, rfl, rfl, by decide +kernel, rfl, by decide +kernel, by decide +kernel⟩
abbrev s_lessened : Stmt := top 25
def N_lessened : List Str := ["p", "flat", "number", "other", "mine", "its"]
theorem sc_lessened : FnScope ["p", "flat", "number", "other", "mine", "its"] ["p", "flat", "number", "other"] (defScope s_lessened) := ⟨rfl, rfl, rfl, by decide +kernel, rfl, by decide +kernel, by decide +kernel⟩
abbrev s_cleared : Stmt := top 26
def N_cleared : List Str := ["p", "flat", "leads", "place"]
theorem sc_cleared : FnScope ["p", "flat", "leads", "place"] ["p", "flat", "leads"] (defScope s_cleared) := ⟨rfl, rfl, rfl, by decide +kernel, rfl, by decide +kernel, by decide +kernel⟩
abbrev s_leads_of : Stmt := top 27
def N_leads_of : List Str := ["p", "flats", "leads", "flat", "rest", "first", "scale", "lead", "place", "number"]
theorem sc_leads_of : FnScope ["p", "flats", "leads", "flat", "rest", "first", "scale", "lead", "place", "number"] ["p", "flats"] (defScope s_leads_of) := ⟨rfl, rfl, rfl, by decide +kernel, rfl, by decide +kernel, by decide +kernel⟩
abbrev s_row_leads : Stmt := top 28
def N_row_leads : List Str := ["p", "rows", "row"]
theorem sc_row_leads : FnScope ["p", "rows", "row"] ["p", "rows"] (defScope s_row_leads) := ⟨rfl, rfl, rfl, by decide +kernel, rfl, by decide +kernel, by decide +kernel⟩
abbrev s_plain : Stmt := top 29
def N_plain : List Str := ["p", "posts", "rows", "leads", "place"]
theorem sc_plain : FnScope ["p", "posts", "rows", "leads", "place"] ["p", "posts", "rows"] (defScope s_plain) := ⟨rfl, rfl, rfl, by decide +kernel, rfl, by decide +kernel, by decide +kernel⟩
abbrev s_together : Stmt := top 30
def N_together : List Str := ["p", "posts", "numbers", "rows", "total", "number", "row"]
theorem sc_together : FnScope ["p", "posts", "numbers", "rows", "total", "number", "row"] ["p", "posts", "numbers", "rows"] (defScope s_together) := ⟨rfl, rfl, rfl, by decide +kernel, rfl, by decide +kernel, by decide +kernel⟩
abbrev s_sided : Stmt := top 32
def N_sided : List Str := ["p", "hold", "row", "held", "told", "side", "pair", "push", "answer"]
theorem sc_sided : FnScope ["p", "hold", "row", "held", "told", "side", "pair", "push", "answer"] ["p", "hold", "row"] (defScope s_sided) := ⟨rfl, rfl, rfl, by decide +kernel, rfl, by decide +kernel, by decide +kernel⟩
abbrev s_row_of_sides : Stmt := top 33
def N_row_of_sides : List Str := ["p", "hold", "held", "told", "side", "mine", "its"]
theorem sc_row_of_sides : FnScope ["p", "hold", "held", "told", "side", "mine", "its"] ["p", "hold", "held", "told"] (defScope s_row_of_sides) := ⟨rfl, rfl, rfl, by decide +kernel, rfl, by decide +kernel, by decide +kernel⟩
abbrev s_side_leads : Stmt := top 34
def N_side_leads : List Str := ["p", "hold", "rows", "row"]
theorem sc_side_leads : FnScope ["p", "hold", "rows", "row"] ["p", "hold", "rows"] (defScope s_side_leads) := ⟨rfl, rfl, rfl, by decide +kernel, rfl, by decide +kernel, by decide +kernel⟩
abbrev s_table_of : Stmt := top 35
def N_table_of : List Str := ["p", "hold", "rows", "posts", "leads", "place", "post"]
theorem sc_table_of : FnScope ["p", "hold", "rows", "posts", "leads", "place", "post"] ["p", "hold", "rows"] (defScope s_table_of) := ⟨rfl, rfl, rfl, by decide +kernel, rfl, by decide +kernel, by decide +kernel⟩
abbrev s_rows_by_table : Stmt := top 36
def N_rows_by_table : List Str := ["p", "hold", "table", "posts", "units", "post", "other", "held", "told"]
theorem sc_rows_by_table : FnScope ["p", "hold", "table", "posts", "units", "post", "other", "held", "told"] ["p", "hold", "table"] (defScope s_rows_by_table) := ⟨rfl, rfl, rfl, by decide +kernel, rfl, by decide +kernel, by decide +kernel⟩
abbrev s_still_rows : Stmt := top 37
def N_still_rows : List Str := ["p", "hold", "rows", "posts", "leads", "found", "place", "flat"]
theorem sc_still_rows : FnScope ["p", "hold", "rows", "posts", "leads", "found", "place", "flat"] ["p", "hold", "rows"] (defScope s_still_rows) := ⟨rfl, rfl, rfl, by decide +kernel, rfl, by decide +kernel, by decide +kernel⟩
abbrev s_still_hands : Stmt := top 42
def N_still_hands : List Str := ["thing", "hold"]
theorem sc_still_hands : FnScope ["thing", "hold"] ["thing", "hold"] (defScope s_still_hands) := ⟨rfl, rfl, rfl, by decide +kernel, rfl, by decide +kernel, by decide +kernel⟩
abbrev s_table : Stmt := top 43
def N_table : List Str := ["thing", "hold", "found"]
theorem sc_table : FnScope ["thing", "hold", "found"] ["thing", "hold"] (defScope s_table) := ⟨rfl, rfl, rfl, by decide +kernel, rfl, by decide +kernel, by decide +kernel⟩
abbrev s_read : Stmt := top 44
def N_read : List Str := ["thing", "hold", "numbers", "rows"]
theorem sc_read : FnScope ["thing", "hold", "numbers", "rows"] ["thing", "hold", "numbers"] (defScope s_read) := ⟨rfl, rfl, rfl, by decide +kernel, rfl, by decide +kernel, by decide +kernel⟩
abbrev s_stepped : Stmt := top 47
def N_stepped : List Str := ["thing", "hold", "wires", "numbers", "row", "mine", "wire"]
theorem sc_stepped : FnScope ["thing", "hold", "wires", "numbers", "row", "mine", "wire"] ["thing", "hold", "wires", "numbers"] (defScope s_stepped) := ⟨rfl, rfl, rfl, by decide +kernel, rfl, by decide +kernel, by decide +kernel⟩
abbrev s_units : Stmt := top 48
def N_units : List Str := ["many", "post", "other"]
theorem sc_units : FnScope ["many", "post", "other"] ["many"] (defScope s_units) := ⟨rfl, rfl, rfl, by decide +kernel, rfl, by decide +kernel, by decide +kernel⟩
abbrev s_moved : Stmt := top 49
def N_moved : List Str := ["p", "rule", "numbers", "post", "number", "row"]
theorem sc_moved : FnScope ["p", "rule", "numbers", "post", "number", "row"] ["p", "rule", "numbers"] (defScope s_moved) := ⟨rfl, rfl, rfl, by decide +kernel, rfl, by decide +kernel, by decide +kernel⟩
abbrev s_rule_of : Stmt := top 50
def N_rule_of : List Str := ["thing", "hold", "wires", "numbers"]
theorem sc_rule_of : FnScope ["thing", "hold", "wires", "numbers"] ["thing", "hold", "wires"] (defScope s_rule_of) := ⟨rfl, rfl, rfl, by decide +kernel, rfl, by decide +kernel, by decide +kernel⟩
abbrev s_round_of : Stmt := top 51
def N_round_of : List Str := ["thing", "hold", "wires", "numbers", "rule", "seen"]
theorem sc_round_of : FnScope ["thing", "hold", "wires", "numbers", "rule", "seen"] ["thing", "hold", "wires", "numbers"] (defScope s_round_of) := ⟨rfl, rfl, rfl, by decide +kernel, rfl, by decide +kernel, by decide +kernel⟩
abbrev s_posts_of : Stmt := top 53
def N_posts_of : List Str := ["rows"]
theorem sc_posts_of : FnScope ["rows"] ["rows"] (defScope s_posts_of) := ⟨rfl, rfl, rfl, by decide +kernel, rfl, by decide +kernel, by decide +kernel⟩
abbrev s_are_rows : Stmt := top 54
def N_are_rows : List Str := ["p", "thing", "posts", "row"]
theorem sc_are_rows : FnScope ["p", "thing", "posts", "row"] ["p", "thing"] (defScope s_are_rows) := ⟨rfl, rfl, rfl, by decide +kernel, rfl, by decide +kernel, by decide +kernel⟩
abbrev s_first_unfair : Stmt := top 55
def N_first_unfair : List Str := ["p", "rows", "k", "row", "j"]
theorem sc_first_unfair : FnScope ["p", "rows", "k", "row", "j"] ["p", "rows"] (defScope s_first_unfair) := ⟨rfl, rfl, rfl, by decide +kernel, rfl, by decide +kernel, by decide +kernel⟩
abbrev s__law_deck : Stmt := top 58
def N__law_deck : List Str := ["_law_script", "_law_cells", "_law_cell"]
theorem sc__law_deck : FnScope ["_law_script", "_law_cells", "_law_cell"] ["_law_script"] (defScope s__law_deck) := ⟨rfl, rfl, rfl, by decide +kernel, rfl, by decide +kernel, by decide +kernel⟩
abbrev s__law_next : Stmt := top 59
def N__law_next : List Str := ["_law_deck_here", "_law_many", "_law_cell", "_law_mixed", "_law_rest"]
theorem sc__law_next : FnScope ["_law_deck_here", "_law_many", "_law_cell", "_law_mixed", "_law_rest"] ["_law_deck_here", "_law_many"] (defScope s__law_next) := ⟨rfl, rfl, rfl, by decide +kernel, rfl, by decide +kernel, by decide +kernel⟩
abbrev s__law_prime : Stmt := top 60
def N__law_prime : List Str := ["_law_deck_here"]
theorem sc__law_prime : FnScope ["_law_deck_here"] ["_law_deck_here"] (defScope s__law_prime) := ⟨rfl, rfl, rfl, by decide +kernel, rfl, by decide +kernel, by decide +kernel⟩
abbrev s__law_numbers : Stmt := top 61
def N__law_numbers : List Str := ["_law_deck_here", "_law_p", "_law_many", "_law_k"]
theorem sc__law_numbers : FnScope ["_law_deck_here", "_law_p", "_law_many", "_law_k"] ["_law_deck_here", "_law_p", "_law_many"] (defScope s__law_numbers) := ⟨rfl, rfl, rfl, by decide +kernel, rfl, by decide +kernel, by decide +kernel⟩
abbrev s__law_hold : Stmt := top 62
def N__law_hold : List Str := ["_law_deck_here", "_law_posts", "_law_k"]
theorem sc__law_hold : FnScope ["_law_deck_here", "_law_posts", "_law_k"] ["_law_deck_here", "_law_posts"] (defScope s__law_hold) := ⟨rfl, rfl, rfl, by decide +kernel, rfl, by decide +kernel, by decide +kernel⟩
abbrev s__law_table : Stmt := top 63
def N__law_table : List Str := ["_law_deck_here", "_law_p", "_law_posts", "_law_found", "_law_k", "_law_j", "_law_number", "_law_row"]
theorem sc__law_table : FnScope ["_law_deck_here", "_law_p", "_law_posts", "_law_found", "_law_k", "_law_j", "_law_number", "_law_row"] ["_law_deck_here", "_law_p", "_law_posts"] (defScope s__law_table) := ⟨rfl, rfl, rfl, by decide +kernel, rfl, by decide +kernel, by decide +kernel⟩
abbrev s__law_stand : Stmt := top 64
def N__law_stand : List Str := ["_law_p", "_law_hold_here", "_law_grid", "_law_held", "_law_found", "_law_j", "_law_told", "_law_k"]
theorem sc__law_stand : FnScope ["_law_p", "_law_hold_here", "_law_grid", "_law_held", "_law_found", "_law_j", "_law_told", "_law_k"] ["_law_p", "_law_hold_here", "_law_grid", "_law_held"] (defScope s__law_stand) := ⟨rfl, rfl, rfl, by decide +kernel, rfl, by decide +kernel, by decide +kernel⟩
abbrev s__law_units : Stmt := top 65
def N__law_units : List Str := ["_law_p", "_law_hold_here", "_law_grid", "_law_posts", "_law_k", "_law_j"]
theorem sc__law_units : FnScope ["_law_p", "_law_hold_here", "_law_grid", "_law_posts", "_law_k", "_law_j"] ["_law_p", "_law_hold_here", "_law_grid"] (defScope s__law_units) := ⟨rfl, rfl, rfl, by decide +kernel, rfl, by decide +kernel, by decide +kernel⟩
abbrev s__law_added : Stmt := top 66
def N__law_added : List Str := ["_law_p", "_law_one", "_law_other", "_law_x", "_law_y", "_law_right", "_law_down"]
theorem sc__law_added : FnScope ["_law_p", "_law_one", "_law_other", "_law_x", "_law_y", "_law_right", "_law_down"] ["_law_p", "_law_one", "_law_other"] (defScope s__law_added) := ⟨rfl, rfl, rfl, by decide +kernel, rfl, by decide +kernel, by decide +kernel⟩
abbrev s__law_times : Stmt := top 67
def N__law_times : List Str := ["_law_p", "_law_number", "_law_row", "_law_x", "_law_y"]
theorem sc__law_times : FnScope ["_law_p", "_law_number", "_law_row", "_law_x", "_law_y"] ["_law_p", "_law_number", "_law_row"] (defScope s__law_times) := ⟨rfl, rfl, rfl, by decide +kernel, rfl, by decide +kernel, by decide +kernel⟩
abbrev s__law_stirred : Stmt := top 68
def N__law_stirred : List Str := ["_law_deck_here", "_law_p", "_law_posts", "_law_rows", "_law_found", "_law_turn", "_law_k", "_law_j"]
theorem sc__law_stirred : FnScope ["_law_deck_here", "_law_p", "_law_posts", "_law_rows", "_law_found", "_law_turn", "_law_k", "_law_j"] ["_law_deck_here", "_law_p", "_law_posts", "_law_rows"] (defScope s__law_stirred) := ⟨rfl, rfl, rfl, by decide +kernel, rfl, by decide +kernel, by decide +kernel⟩
abbrev s__law_step : Stmt := top 69
def N__law_step : List Str := ["_law_p", "_law_sides", "_law_grid", "_law_wires_here", "_law_held", "_law_row", "_law_found", "_law_post", "_law_number"]
theorem sc__law_step : FnScope ["_law_p", "_law_sides", "_law_grid", "_law_wires_here", "_law_held", "_law_row", "_law_found", "_law_post", "_law_number"] ["_law_p", "_law_sides", "_law_grid", "_law_wires_here", "_law_held"] (defScope s__law_step) := ⟨rfl, rfl, rfl, by decide +kernel, rfl, by decide +kernel, by decide +kernel⟩
abbrev s__law_wires : Stmt := top 70
def N__law_wires : List Str := ["_law_deck_here", "_law_posts", "_law_found", "_law_post"]
theorem sc__law_wires : FnScope ["_law_deck_here", "_law_posts", "_law_found", "_law_post"] ["_law_deck_here", "_law_posts"] (defScope s__law_wires) := ⟨rfl, rfl, rfl, by decide +kernel, rfl, by decide +kernel, by decide +kernel⟩
abbrev s__law_led : Stmt := top 71
def N__law_led : List Str := ["_law_p", "_law_sides", "_law_grid", "_law_wires_here", "_law_posts", "_law_ones", "_law_k", "_law_one", "_law_j"]
theorem sc__law_led : FnScope ["_law_p", "_law_sides", "_law_grid", "_law_wires_here", "_law_posts", "_law_ones", "_law_k", "_law_one", "_law_j"] ["_law_p", "_law_sides", "_law_grid", "_law_wires_here"] (defScope s__law_led) := ⟨rfl, rfl, rfl, by decide +kernel, rfl, by decide +kernel, by decide +kernel⟩
abbrev s__law_gone_round : Stmt := top 72
def N__law_gone_round : List Str := ["_law_p", "_law_images", "_law_held", "_law_seen", "_law_posts", "_law_beat", "_law_j", "_law_k"]
theorem sc__law_gone_round : FnScope ["_law_p", "_law_images", "_law_held", "_law_seen", "_law_posts", "_law_beat", "_law_j", "_law_k"] ["_law_p", "_law_images", "_law_held"] (defScope s__law_gone_round) := ⟨rfl, rfl, rfl, by decide +kernel, rfl, by decide +kernel, by decide +kernel⟩
abbrev s__law_asked : Stmt := top 73
def N__law_asked : List Str := ["_law_thing", "_law_sides", "_law_wires_here", "_law_held", "_law_found", "_law_told", "e"]
theorem sc__law_asked : FnScope ["_law_thing", "_law_sides", "_law_wires_here", "_law_held", "_law_found", "_law_told", "e"] ["_law_thing", "_law_sides", "_law_wires_here", "_law_held"] (defScope s__law_asked) := ⟨rfl, rfl, rfl, by decide +kernel, rfl, by decide +kernel, by decide +kernel⟩
abbrev s_law : Stmt := top 74
def N_law : List Str := ["_law_script", "_law_deck_here", "_law_p", "_law_posts", "_law_sides", "_law_grid", "_law_thing", "_law_wires_here", "_law_images", "_law_held", "_law_due", "_law_whole", "_law_turn"]
theorem sc_law : FnScope ["_law_script", "_law_deck_here", "_law_p", "_law_posts", "_law_sides", "_law_grid", "_law_thing", "_law_wires_here", "_law_images", "_law_held", "_law_due", "_law_whole", "_law_turn"] ["_law_script"] (defScope s_law) := ⟨rfl, rfl, rfl, by decide +kernel, rfl, by decide +kernel, by decide +kernel⟩
abbrev s_Thing___init__ : Stmt := inClass (top 56) 0
def N_Thing___init__ : List Str := ["self", "p", "rows", "unfair", "posts", "found"]
theorem sc_Thing___init__ : FnScope ["self", "p", "rows", "unfair", "posts", "found"] ["self", "p", "rows"] (defScope s_Thing___init__) := ⟨rfl, rfl, rfl, by decide +kernel, rfl, by decide +kernel, by decide +kernel⟩
abbrev s_Thing_p : Stmt := inClass (top 56) 1
def N_Thing_p : List Str := ["self"]
theorem sc_Thing_p : FnScope ["self"] ["self"] (defScope s_Thing_p) := ⟨rfl, rfl, rfl, by decide +kernel, rfl, by decide +kernel, by decide +kernel⟩
abbrev s_Thing_rows : Stmt := inClass (top 56) 3
def N_Thing_rows : List Str := ["self"]
theorem sc_Thing_rows : FnScope ["self"] ["self"] (defScope s_Thing_rows) := ⟨rfl, rfl, rfl, by decide +kernel, rfl, by decide +kernel, by decide +kernel⟩
abbrev s_TooMany___init__ : Stmt := inClass (top 6) 0
def N_TooMany___init__ : List Str := ["self", "bound"]
theorem sc_TooMany___init__ : FnScope ["self", "bound"] ["self", "bound"] (defScope s_TooMany___init__) := ⟨rfl, rfl, rfl, by decide +kernel, rfl, by decide +kernel, by decide +kernel⟩
structure Dm (K : PySem.W.Frag) (C : Addr) (x qual : Str) (st : Stmt) (ps : List Str) (f : Addr) (fd : FuncData) : Prop where
  F : Fun K x qual st f fd
  b : Binds K fd ps []
  m : Meth K C x f
structure De (K : PySem.W.Frag) (qual : Str) (st : Stmt) (ps : List Str) (f : Addr) (fd : FuncData) : Prop where
  F : Fun K "__init__" qual st f fd
  b : Binds K fd ps []
structure Df (K : PySem.W.Frag) (mg : Str → Option Value) (x : Str) (st : Stmt) (ps : List Str) (f : Addr) (fd : FuncData) : Prop where
  F : Fun K x x st f fd
  b : Binds K fd ps []
  g : mg x = some (.ref f)
structure Ad where
  f_is_whole : Addr
  d_is_whole : FuncData
  f_is_prime : Addr
  d_is_prime : FuncData
  f_is_round : Addr
  d_is_round : FuncData
  f_inverse : Addr
  d_inverse : FuncData
  f_is_pair : Addr
  d_is_pair : FuncData
  f_is_row : Addr
  d_is_row : FuncData
  f_nought : Addr
  d_nought : FuncData
  f_added : Addr
  d_added : FuncData
  f_times : Addr
  d_times : FuncData
  f_meet : Addr
  d_meet : FuncData
  f_flat_of : Addr
  d_flat_of : FuncData
  f_row_of : Addr
  d_row_of : FuncData
  f_first_place : Addr
  d_first_place : FuncData
  f_lessened : Addr
  d_lessened : FuncData
  f_cleared : Addr
  d_cleared : FuncData
  f_leads_of : Addr
  d_leads_of : FuncData
  f_row_leads : Addr
  d_row_leads : FuncData
  f_plain : Addr
  d_plain : FuncData
  f_together : Addr
  d_together : FuncData
  f_sided : Addr
  d_sided : FuncData
  f_row_of_sides : Addr
  d_row_of_sides : FuncData
  f_side_leads : Addr
  d_side_leads : FuncData
  f_table_of : Addr
  d_table_of : FuncData
  f_rows_by_table : Addr
  d_rows_by_table : FuncData
  f_still_rows : Addr
  d_still_rows : FuncData
  f_still_hands : Addr
  d_still_hands : FuncData
  f_table : Addr
  d_table : FuncData
  f_read : Addr
  d_read : FuncData
  f_stepped : Addr
  d_stepped : FuncData
  f_units : Addr
  d_units : FuncData
  f_moved : Addr
  d_moved : FuncData
  f_rule_of : Addr
  d_rule_of : FuncData
  f_round_of : Addr
  d_round_of : FuncData
  f_posts_of : Addr
  d_posts_of : FuncData
  f_are_rows : Addr
  d_are_rows : FuncData
  f_first_unfair : Addr
  d_first_unfair : FuncData
  f__law_deck : Addr
  d__law_deck : FuncData
  f__law_next : Addr
  d__law_next : FuncData
  f__law_prime : Addr
  d__law_prime : FuncData
  f__law_numbers : Addr
  d__law_numbers : FuncData
  f__law_hold : Addr
  d__law_hold : FuncData
  f__law_table : Addr
  d__law_table : FuncData
  f__law_stand : Addr
  d__law_stand : FuncData
  f__law_units : Addr
  d__law_units : FuncData
  f__law_added : Addr
  d__law_added : FuncData
  f__law_times : Addr
  d__law_times : FuncData
  f__law_stirred : Addr
  d__law_stirred : FuncData
  f__law_step : Addr
  d__law_step : FuncData
  f__law_wires : Addr
  d__law_wires : FuncData
  f__law_led : Addr
  d__law_led : FuncData
  f__law_gone_round : Addr
  d__law_gone_round : FuncData
  f__law_asked : Addr
  d__law_asked : FuncData
  f_law : Addr
  d_law : FuncData
  c_PRIMES : Addr
  c_POSTS : Addr
  c_ROUNDS : Addr
  f_Thing___init__ : Addr
  d_Thing___init__ : FuncData
  f_Thing_p : Addr
  d_Thing_p : FuncData
  f_Thing_rows : Addr
  d_Thing_rows : FuncData
  f_TooMany___init__ : Addr
  d_TooMany___init__ : FuncData
  c_Thing : Addr
  c_PostError : Addr
  c_BadThing : Addr
  c_BadPost : Addr
  c_BadNumber : Addr
  c_Still : Addr
  c_TooMany : Addr
structure Tx (K : PySem.W.Frag) (mg : Str → Option Value) (A : Ad) : Prop where
  d_is_whole : Df K mg "is_whole" s_is_whole ["thing"] A.f_is_whole A.d_is_whole
  d_is_prime : Df K mg "is_prime" s_is_prime ["thing"] A.f_is_prime A.d_is_prime
  d_is_round : Df K mg "is_round" s_is_round ["p", "thing"] A.f_is_round A.d_is_round
  d_inverse : Df K mg "inverse" s_inverse ["p", "number"] A.f_inverse A.d_inverse
  d_is_pair : Df K mg "is_pair" s_is_pair ["p", "thing"] A.f_is_pair A.d_is_pair
  d_is_row : Df K mg "is_row" s_is_row ["p", "posts", "thing"] A.f_is_row A.d_is_row
  d_nought : Df K mg "nought" s_nought ["posts"] A.f_nought A.d_nought
  d_added : Df K mg "added" s_added ["p", "one", "other"] A.f_added A.d_added
  d_times : Df K mg "times" s_times ["p", "number", "row"] A.f_times A.d_times
  d_meet : Df K mg "meet" s_meet ["p", "one", "other"] A.f_meet A.d_meet
  d_flat_of : Df K mg "flat_of" s_flat_of ["row"] A.f_flat_of A.d_flat_of
  d_row_of : Df K mg "row_of" s_row_of ["flat"] A.f_row_of A.d_row_of
  d_first_place : Df K mg "first_place" s_first_place ["flat"] A.f_first_place A.d_first_place
  d_lessened : Df K mg "lessened" s_lessened ["p", "flat", "number", "other"] A.f_lessened A.d_lessened
  d_cleared : Df K mg "cleared" s_cleared ["p", "flat", "leads"] A.f_cleared A.d_cleared
  d_leads_of : Df K mg "leads_of" s_leads_of ["p", "flats"] A.f_leads_of A.d_leads_of
  d_row_leads : Df K mg "row_leads" s_row_leads ["p", "rows"] A.f_row_leads A.d_row_leads
  d_plain : Df K mg "plain" s_plain ["p", "posts", "rows"] A.f_plain A.d_plain
  d_together : Df K mg "together" s_together ["p", "posts", "numbers", "rows"] A.f_together A.d_together
  d_sided : Df K mg "sided" s_sided ["p", "hold", "row"] A.f_sided A.d_sided
  d_row_of_sides : Df K mg "row_of_sides" s_row_of_sides ["p", "hold", "held", "told"] A.f_row_of_sides A.d_row_of_sides
  d_side_leads : Df K mg "side_leads" s_side_leads ["p", "hold", "rows"] A.f_side_leads A.d_side_leads
  d_table_of : Df K mg "table_of" s_table_of ["p", "hold", "rows"] A.f_table_of A.d_table_of
  d_rows_by_table : Df K mg "rows_by_table" s_rows_by_table ["p", "hold", "table"] A.f_rows_by_table A.d_rows_by_table
  d_still_rows : Df K mg "still_rows" s_still_rows ["p", "hold", "rows"] A.f_still_rows A.d_still_rows
  d_still_hands : Df K mg "still_hands" s_still_hands ["thing", "hold"] A.f_still_hands A.d_still_hands
  d_table : Df K mg "table" s_table ["thing", "hold"] A.f_table A.d_table
  d_read : Df K mg "read" s_read ["thing", "hold", "numbers"] A.f_read A.d_read
  d_stepped : Df K mg "stepped" s_stepped ["thing", "hold", "wires", "numbers"] A.f_stepped A.d_stepped
  d_units : Df K mg "units" s_units ["many"] A.f_units A.d_units
  d_moved : Df K mg "moved" s_moved ["p", "rule", "numbers"] A.f_moved A.d_moved
  d_rule_of : Df K mg "rule_of" s_rule_of ["thing", "hold", "wires"] A.f_rule_of A.d_rule_of
  d_round_of : Df K mg "round_of" s_round_of ["thing", "hold", "wires", "numbers"] A.f_round_of A.d_round_of
  d_posts_of : Df K mg "posts_of" s_posts_of ["rows"] A.f_posts_of A.d_posts_of
  d_are_rows : Df K mg "are_rows" s_are_rows ["p", "thing"] A.f_are_rows A.d_are_rows
  d_first_unfair : Df K mg "first_unfair" s_first_unfair ["p", "rows"] A.f_first_unfair A.d_first_unfair
  d__law_deck : Df K mg "_law_deck" s__law_deck ["_law_script"] A.f__law_deck A.d__law_deck
  d__law_next : Df K mg "_law_next" s__law_next ["_law_deck_here", "_law_many"] A.f__law_next A.d__law_next
  d__law_prime : Df K mg "_law_prime" s__law_prime ["_law_deck_here"] A.f__law_prime A.d__law_prime
  d__law_numbers : Df K mg "_law_numbers" s__law_numbers ["_law_deck_here", "_law_p", "_law_many"] A.f__law_numbers A.d__law_numbers
  d__law_hold : Df K mg "_law_hold" s__law_hold ["_law_deck_here", "_law_posts"] A.f__law_hold A.d__law_hold
  d__law_table : Df K mg "_law_table" s__law_table ["_law_deck_here", "_law_p", "_law_posts"] A.f__law_table A.d__law_table
  d__law_stand : Df K mg "_law_stand" s__law_stand ["_law_p", "_law_hold_here", "_law_grid", "_law_held"] A.f__law_stand A.d__law_stand
  d__law_units : Df K mg "_law_units" s__law_units ["_law_p", "_law_hold_here", "_law_grid"] A.f__law_units A.d__law_units
  d__law_added : Df K mg "_law_added" s__law_added ["_law_p", "_law_one", "_law_other"] A.f__law_added A.d__law_added
  d__law_times : Df K mg "_law_times" s__law_times ["_law_p", "_law_number", "_law_row"] A.f__law_times A.d__law_times
  d__law_stirred : Df K mg "_law_stirred" s__law_stirred ["_law_deck_here", "_law_p", "_law_posts", "_law_rows"] A.f__law_stirred A.d__law_stirred
  d__law_step : Df K mg "_law_step" s__law_step ["_law_p", "_law_sides", "_law_grid", "_law_wires_here", "_law_held"] A.f__law_step A.d__law_step
  d__law_wires : Df K mg "_law_wires" s__law_wires ["_law_deck_here", "_law_posts"] A.f__law_wires A.d__law_wires
  d__law_led : Df K mg "_law_led" s__law_led ["_law_p", "_law_sides", "_law_grid", "_law_wires_here"] A.f__law_led A.d__law_led
  d__law_gone_round : Df K mg "_law_gone_round" s__law_gone_round ["_law_p", "_law_images", "_law_held"] A.f__law_gone_round A.d__law_gone_round
  d__law_asked : Df K mg "_law_asked" s__law_asked ["_law_thing", "_law_sides", "_law_wires_here", "_law_held"] A.f__law_asked A.d__law_asked
  d_law : Df K mg "law" s_law ["_law_script"] A.f_law A.d_law
  b_abs : mg "abs" = none
  b_all : mg "all" = none
  b_any : mg "any" = none
  b_bool : mg "bool" = none
  b_enumerate : mg "enumerate" = none
  b_int : mg "int" = none
  b_isinstance : mg "isinstance" = none
  b_len : mg "len" = none
  b_list : mg "list" = none
  b_range : mg "range" = none
  b_repr : mg "repr" = none
  b_sorted : mg "sorted" = none
  b_sum : mg "sum" = none
  b_tuple : mg "tuple" = none
  b_zip : mg "zip" = none
  v_PRIMES : mg "PRIMES" = some (.ref A.c_PRIMES)
  w_PRIMES : ∃ (od : Option Addr) (its : Array Value) (n : Nat) (sl : Array (Option Value)), K.lookup A.c_PRIMES = some ⟨.type "tuple", od, .seq its n, sl⟩ ∧ Vals [V.int 2, V.int 3, V.int 5, V.int 7, V.int 11, V.int 13] its.toList
  v_POSTS : ∃ t, mg "POSTS" = some (.int 10 t)
  v_ROUNDS : ∃ t, mg "ROUNDS" = some (.int 3000 t)
  d_Thing___init__ : Dm K A.c_Thing "__init__" "Thing.__init__" s_Thing___init__ ["self", "p", "rows"] A.f_Thing___init__ A.d_Thing___init__
  d_Thing_p : Dm K A.c_Thing "p" "Thing.p" s_Thing_p ["self"] A.f_Thing_p A.d_Thing_p
  d_Thing_rows : Dm K A.c_Thing "rows" "Thing.rows" s_Thing_rows ["self"] A.f_Thing_rows A.d_Thing_rows
  g_Thing : mg "Thing" = some (.ref A.c_Thing)
  cl_Thing : Cls K A.c_Thing
  mk_Thing : Mk K A.c_Thing A.f_Thing___init__
  n_Thing_prime : NoAttr K A.c_Thing "prime"
  n_Thing_lot : NoAttr K A.c_Thing "lot"
  ne_Thing : PySem.W.findIn K (.ref A.c_Thing) "__ne__" = some (some (.builtin "object.__ne__"))
  ob_Thing : PySem.W.mroIn K A.c_Thing (.type "object") = some true
  ca_Thing : PySem.W.findIn K (.ref A.c_Thing) "__class__" = some (some (.builtin "object.__class__"))
  k_get : PySem.W.specialIn K (.builtin "object.__class__") "__get__" = some (some (.builtin "getset_descriptor.__get__"))
  k_tak : PySem.W.takesIn K (.builtin "object.__class__") = some true
  g_PostError : mg "PostError" = some (.ref A.c_PostError)
  g_BadThing : mg "BadThing" = some (.ref A.c_BadThing)
  g_BadPost : mg "BadPost" = some (.ref A.c_BadPost)
  g_BadNumber : mg "BadNumber" = some (.ref A.c_BadNumber)
  g_Still : mg "Still" = some (.ref A.c_Still)
  g_TooMany : mg "TooMany" = some (.ref A.c_TooMany)
  d_TooMany___init__ : De K "TooMany.__init__" s_TooMany___init__ ["self", "bound"] A.f_TooMany___init__ A.d_TooMany___init__
  e_TooMany : Xb.Err K A.c_TooMany
  i_TooMany : PySem.W.findIn K (.ref A.c_TooMany) "__init__" = some (some (.ref A.f_TooMany___init__))
  t_TooMany : PySem.W.typeIn K (.ref A.f_TooMany___init__) = some (.type "function")
  n_TooMany_bound : PySem.W.findIn K (.ref A.c_TooMany) "bound" = some none
  u_TooMany_PostError : PySem.W.subIn K (.ref A.c_TooMany) (.ref A.c_PostError) = some true
  u_TooMany_BadNumber : PySem.W.subIn K (.ref A.c_TooMany) (.ref A.c_BadNumber) = some false
  u_TooMany_BadPost : PySem.W.subIn K (.ref A.c_TooMany) (.ref A.c_BadPost) = some false
  u_TooMany_BadThing : PySem.W.subIn K (.ref A.c_TooMany) (.ref A.c_BadThing) = some false
  u_TooMany_Still : PySem.W.subIn K (.ref A.c_TooMany) (.ref A.c_Still) = some false
  b_PostError : Xb.Base K A.c_PostError
  kg : Xb.KG K
  k_PostError : Xb.Cld K A.c_PostError
  k_TooMany : Xb.Cld K A.c_TooMany
  k_BadNumber : Xb.Cld K A.c_BadNumber
  k_BadPost : Xb.Cld K A.c_BadPost
  k_BadThing : Xb.Cld K A.c_BadThing
  k_Still : Xb.Cld K A.c_Still
/-! ### heaps -/
theorem same_upd {H : Hp} {p : Addr} {o : HO} (h : H p = none) : Same H (upd H p o) := fun b x e => by
  rw [upd_ne (ne_of_none e h)]
  exact e
/-- all but the deck's two lists that change stays -/
def Fr (d g : Addr) (H H' : Hp) : Prop := ∀ a o, a ≠ d → a ≠ g → H a = some o → H' a = some o
theorem Fr.refl (d g : Addr) (H : Hp) : Fr d g H H := fun _ _ _ _ h => h
theorem Fr.trans {d g : Addr} {H H1 H2 : Hp} (x : Fr d g H H1) (y : Fr d g H1 H2) : Fr d g H H2 := fun a o hd hg h => y a o hd hg (x a o hd hg h)
theorem Fr.of_same {d g : Addr} {H H1 : Hp} (x : Same H H1) : Fr d g H H1 := fun a o _ _ h => x a o h
theorem Fr.new {d g : Addr} {H : Hp} {p : Addr} {o : HO} (h : H p = none) : Fr d g H (upd H p o) := .of_same (same_upd h)
theorem Fr.atd {d g : Addr} {H : Hp} {o : HO} : Fr d g H (upd H d o) := fun a x hd _ h => by
  rw [upd_ne hd]
  exact h
theorem Fr.atg {d g : Addr} {H : Hp} {o : HO} : Fr d g H (upd H g o) := fun a x _ hg h => by
  rw [upd_ne hg]
  exact h
/-- the deck: a list of great cells, of cells, and a count that is at most k -/
structure Dk (d g c : Addr) (k : Int) (H : Hp) : Prop where
  ex : ∃ (gs cs : List Int) (n : Int), H d = some (.lst [.ref g, .ref c, .int n]) ∧ H g = some (.lst (gs.map V.int)) ∧ H c = some (.lst (cs.map V.int)) ∧ 0 < cs.length ∧ cs.length ≤ 100 ∧ 0 ≤ n ∧ n ≤ k
  dg : d ≠ g
  dc : d ≠ c
  gc : g ≠ c
theorem Dk.mono {d g c : Addr} {k j : Int} {H : Hp} (D : Dk d g c k H) (h : k ≤ j) : Dk d g c j H := by
  obtain ⟨gs, cs, n, h1, h2, h3, h4, h5, h6, h7⟩ := D.ex
  exact ⟨⟨gs, cs, n, h1, h2, h3, h4, h5, h6, by omega⟩, D.dg, D.dc, D.gc⟩
theorem Dk.same {d g c : Addr} {k : Int} {H H' : Hp} (D : Dk d g c k H) (s : Same H H') : Dk d g c k H' := by
  obtain ⟨gs, cs, n, h1, h2, h3, h4, h5, h6, h7⟩ := D.ex
  exact ⟨⟨gs, cs, n, s _ _ h1, s _ _ h2, s _ _ h3, h4, h5, h6, h7⟩, D.dg, D.dc, D.gc⟩
theorem Dk.hd {d g c : Addr} {k : Int} {H : Hp} (D : Dk d g c k H) : ∃ o, H d = some o := by
  obtain ⟨gs, cs, n, h1, _⟩ := D.ex
  exact ⟨_, h1⟩
theorem Dk.nd {d g c p : Addr} {k : Int} {H : Hp} (D : Dk d g c k H) (h : H p = none) : p ≠ d ∧ p ≠ g ∧ p ≠ c := by
  obtain ⟨gs, cs, n, h1, h2, h3, _⟩ := D.ex
  exact ⟨(ne_of_none h1 h).symm, (ne_of_none h2 h).symm, (ne_of_none h3 h).symm⟩
theorem neqv_nil : ∀ gs : List Int, PyData.eqv (.list (gs.map PyData.int)) (.list []) = gs.isEmpty
  | [] => rfl
  | _ :: _ => rfl
theorem dp_ints {K : PySem.W.Frag} {H : Hp} : ∀ gs : List Int, DpAll K H (gs.map V.int) (gs.map PyData.int)
  | [] => .nil
  | i :: r => .cons (.int i) (dp_ints r)
theorem lay_ints : ∀ gs : List Int, PyData.canLayAll0 (gs.map PyData.int) = true
  | [] => by simp [PyData.canLayAll0]
  | z :: zs => by simp [PyData.canLayAll0, PyData.canLay0, lay_ints zs]
theorem dep_ints : ∀ gs : List Int, PyData.depthAll (gs.map PyData.int) = 0
  | [] => by simp [PyData.depthAll]
  | z :: zs => by simp [PyData.depthAll, PyData.depth, dep_ints zs]
theorem sh_ints (gs : List Int) : SeqAt.shaped (.list (gs.map PyData.int)) = true := by
  have h1 := dep_ints gs
  have h2 : PyData.depth (.list (gs.map PyData.int)) ≤ 64 := by
    simp only [PyData.depth]
    omega
  show (PyData.canLay0 (.list (gs.map PyData.int)) && decide (PyData.depth (.list (gs.map PyData.int)) ≤ 64)) = true
  rw [Bool.and_eq_true]
  exact ⟨by simp only [PyData.canLay0]; exact lay_ints gs, decide_eq_true h2⟩
theorem atI_zero {α : Type} {x : α} {xs : List α} : atI (x :: xs) 0 = some x := atI_nat (j := 0) rfl
theorem ints_at {cs : List Int} {i : Int} (h0 : 0 ≤ i) (h1 : i < cs.length) : ∃ v : Int, atI (cs.map V.int) i = some (V.int v) := by
  obtain ⟨j, rfl⟩ := Int.eq_ofNat_of_zero_le h0
  have hj : j < cs.length := by omega
  refine ⟨cs[j], ?_⟩
  apply atI_nat
  rw [List.getElem?_map, List.getElem?_eq_getElem hj]
  rfl
theorem int_of_map {cs : List Int} {i : Nat} {y : V} (h : (cs.map V.int)[i]? = some y) : ∃ u, y = V.int u := by
  rw [List.getElem?_map] at h
  cases e : cs[i]? with
  | none =>
    rw [e] at h
    cases h
  | some u =>
    rw [e] at h
    exact ⟨u, (Option.some.inj h).symm⟩
theorem ixN_zero {n : Nat} (h : 0 < n) : ixN n 0 = some 0 := by
  unfold ixN
  rw [if_pos (Int.le_refl 0), if_pos (by omega)]
  rfl
theorem ixN_seq0 {n : Nat} (h : 0 < n) : seqIndex? 0 n = some 0 := (ixN_seq (ixN_zero h)).1
theorem mod_in {a m : Int} (h0 : 0 < m) (h1 : m ≤ 2 ^ 64) : -(2 ^ 64) < a % m ∧ a % m < 2 ^ 64 := by
  have x := Int.emod_nonneg a (b := m) (by omega)
  have y := Int.emod_lt_of_pos a h0
  exact ⟨by omega, by omega⟩
theorem bl_t {c : Prop} [Decidable c] (h : c) : V.bl (decide c) = V.bl true := by rw [decide_eq_true h]
theorem bl_f {c : Prop} [Decidable c] (h : ¬ c) : V.bl (decide c) = V.bl false := by rw [decide_eq_false h]
theorem nb_f {c : Prop} [Decidable c] (h : c) : V.bl (!decide c) = V.bl false := by rw [decide_eq_true h]; rfl
theorem nb_t {c : Prop} [Decidable c] (h : ¬ c) : V.bl (!decide c) = V.bl true := by rw [decide_eq_false h]; rfl
/-! ### isinstance -/
def isB (T U : String) : Bool := (kitB T U).getD false
/-- the built-in type of a value -/
def TyB1 (K : PySem.W.Frag) (H : Hp) (x : V) (T : String) : Prop := TyX K H x (.type T) ∧ (T = "int" ∨ T = "bool" ∨ T = "NoneType" ∨ T = "str" ∨ T = "list" ∨ T = "tuple" ∨ T = "dict")
theorem isi_of {K : PySem.W.Frag} {T : String} (U : String) (hT : T = "int" ∨ T = "bool" ∨ T = "NoneType" ∨ T = "str" ∨ T = "list" ∨ T = "tuple" ∨ T = "dict") (hU : U = "int" ∨ U = "bool" ∨ U = "tuple" ∨ U = "list" ∨ U = "str") : PySem.W.kitOne K (.type T) (.type U) = some (isB T U) := by
  rcases hT with rfl | rfl | rfl | rfl | rfl | rfl | rfl <;> rcases hU with rfl | rfl | rfl | rfl | rfl <;> exact kit_ty (by decide +kernel)
theorem isB_ii : isB "int" "int" = true := by decide +kernel
theorem isB_ib : isB "int" "bool" = false := by decide +kernel
theorem isB_bi : isB "bool" "int" = true := by decide +kernel
theorem isB_bb : isB "bool" "bool" = true := by decide +kernel
theorem isB_tt : isB "tuple" "tuple" = true := by decide +kernel
/-! ### a call where it is known that no repr is under way (guards), and the law's own end over it -/
open PySem.Spec PyProof.Rows in
theorem at_call {P : Program} {w : World} {K : PySem.W.Frag} {mg : Str → Option Value} {base : Heap} {A : Around} {outer : List Env}
    {x qual : Str} {st : Stmt} {f : Addr} {fd : FuncData} {N ps : List Str} {k : Nat} (F : Fun K x qual st f fd)
    (S : FnScope N ps (defScope st)) {s : Shared} {H : Hp} {args : Args} {us : List Value} {vs : List V} {Q : VK} {E : XK}
    (hl : vs.length = ps.length) (room : Room (k + 1) A) (e0 : Env0 P w K mg base A outer s H)
    (hb : BindsTo s fd args (ps.zip us)) (rv : Vals vs us)
    (body : ∀ cdv : Value, Room k (A.deeper (envOfC qual (defScope st) s.heap.objs.size f cdv)) →
      ∃ t, PSs (cxOf CX0 P w K mg base N qual (defScope st) f cdv A outer s H E).nox (defBody st) t ∧
        t { nx := fun _ H' => Q .non H', rt := Q } (start N vs) H) :
    codeAny (model P w) A (.call (.ref f) args) (CR CX0 outer P w H s Q E) s := by
  obtain ⟨oc, od, kV, doc, pm, an, cdv, ct, osl, rfl, look, code⟩ := F.ex
  have inn : ∀ {b o}, base.get? b = some o → s.heap.get? b = some o := fun z => (e0.bs _ _ z).1
  have kin : K.In s.heap := e0.mod.kin.keeps fun _ _ z => inn z
  have nol : s.heap.NoLimit := e0.mod.nolimit.keeps fun _ _ z => inn z
  refine codeAny_call_function room.depth (kin _ _ look) rfl S.co S.gen rfl (PySem.W.codeRec_of kin code) (hb _ _ _ _ ?_)
  refine wpAny_newFunctionEnv_cells S.kind (fun y hy => ?_) fun env he s1 inc => ?_
  · obtain ⟨n, v⟩ := y
    cases S.par n (List.of_mem_zip hy).1 with
    | inl z => exact Or.inl z
    | inr z => exact Or.inr ⟨z, PySem.W.cellsFrom_some _ _ _ (Or.inl z)⟩
  · subst he
    refine ⟨nol.keeps inc.toInCall.keep, codeAny_func ?_⟩
    obtain ⟨t, ht, hq⟩ := body cdv (room.deeper _)
    have I0 := inv_start (CX := CX0) (E := E) S room.hd e0 hl rv inc
    refine wpAny_mono (ht.nox.run [] s1 (start N vs) H _ I0 hq) (fun fl s' hs => ?_) (fun _ _ z => z)
    match fl, hs with
    | .ret _, ⟨v, _, H', J, r1, q1⟩ => exact ⟨v, H', J.os, J.bare, J.base, J.hok, r1, q1⟩
    | .next, ⟨_, H', J, q1⟩ => exact ⟨V.non, H', J.os, J.bare, J.base, J.hok, rfl, q1⟩
    | .brk, ⟨_, _, _, z⟩ => exact z.elim
    | .cont, ⟨_, _, _, z⟩ => exact z.elim
open PySem.Spec PyProof.Rows in
theorem core_end {P : Program} {w : World} {K : PySem.W.Frag} {mg mb : Str → Option Value} {fa a : Addr} {t : Shared} {vs : List Value} {H : Hp}
    (kin : K.In t.heap) (hm : t.heap.Ns mainGlobals mg) (hb : t.heap.Ns builtinsNs mb) (boot : ∀ x : Str, x ≠ "__name__" → mb x = bootBuiltins x)
    (nol : t.heap.NoLimit) (hg : t.gens = #[]) (ha : t.heap.get? a = some { cls := .type "list", data := .seq vs.toArray })
    (only : Only H) (hok : HOk P w H t.heap) (atA : ∀ b o, H b = some o → b = a) (notK : ∀ o, H a = some o → K.lookup a = none)
    (R : ∀ base : Heap, (∀ b o, t.heap.get? b = some o → H b = none → base.get? b = some o) → Env0 P w K mg base callerA [] t H →
      codeAny (model P w) callerA (.call (.ref fa) ⟨[.ref a], []⟩) (CR CX0 [] P w H t (fun v _ => v = .bl true) E0) t) :
    codeAny (model P w) callerA (.call (.ref fa) ⟨[.ref a], []⟩)
      (fun r u => r = .ok (.ret (.bool true)) ∧ PySem.OldK t.heap u.heap ∧ u.os = t.os ∧ AllBare u.gens) t := by
  have hid : ∀ {b o}, t.heap.get? b = some o → H b = none → (hidT t.heap H).get? b = some o := fun z n => hidT_get z n
  have names : ∀ {b : Addr} {m : Str → Option Value}, t.heap.Ns b m → (hidT t.heap H).Ns b m := by
    rintro b m ⟨o, es, ep, z, d, r⟩
    refine ⟨o, es, ep, hid z ?_, d, r⟩
    cases q : H b with
    | none => rfl
    | some u =>
      cases atA b u q
      rw [ha] at z
      cases z
      cases d
  have kinB : K.In (hidT t.heap H) := by
    intro b o z
    refine hid (kin b o z) ?_
    cases q : H b with
    | none => rfl
    | some u =>
      cases atA b u q
      rw [notK u q] at z
      cases z
  obtain ⟨mc, n1, n2⟩ := nol
  have md : Mod K mg (hidT t.heap H) := ⟨kinB, names hm, ⟨mb, names hb, boot⟩, ⟨mc, names n1, n2⟩⟩
  have e0 : Env0 P w K mg (hidT t.heap H) callerA [] t H := by
    refine ⟨rfl, md, fun b o z => of_hidT z, Nat.le_of_eq (hidT_size _ _), trivial, fun b z => ?_, hok, .of_eq hg⟩
    exact (List.not_mem_nil (show b ∈ ([] : List Addr) from z)).elim
  refine codeAny_mono (R _ (fun b o z n => hid z n) e0) fun r u h => ?_
  match r, h with
  | .ok (.ret y), ⟨v, H', hos, bare, un, hok', rel, e⟩ =>
    have e2 : v = V.bl true := e
    subst e2
    cases (show y = Value.bool true from rel)
    refine ⟨rfl, OldK.of_keep fun b o z => ?_, hos, bare⟩
    rcases only b with n | ⟨ob, xs, n⟩
    · exact un.keep b o z n (fun y => (List.not_mem_nil (show b ∈ ([] : List Addr) from y)).elim) (by simp)
    · obtain ⟨g1, _⟩ := hok b _ n
      obtain ⟨g2, _⟩ := hok' b _ (un.frzs b ob _ n)
      rw [g1] at z
      cases z
      exact g2
  | .ok .next, h => exact False.elim h
  | .ok .brk, h => exact False.elim h
  | .ok .cont, h => exact False.elim h
  | .error _, h => exact False.elim h
open PySem.Spec PyProof.Rows in
/-- the law's call, over every script of at most 63 numbers, gives True -/
def LawOk (P : Program) (w : World) (K : PySem.W.Frag) (mg : Str → Option Value) (fa : Addr) : Prop :=
  ∀ (base : Heap) (t : Shared) (H : Hp) (a : Addr) (ns : List Int), ns.length ≤ 63 → (∃ o, base.get? sysModules = some o) → Env0 P w K mg base callerA [] t H → SqL K H a (ns.map V.int) →
    codeAny (model P w) callerA (.call (.ref fa) ⟨[.ref a], []⟩) (CR CX0 [] P w H t (fun v _ => v = .bl true) E0) t
open PySem.Spec PyProof.Rows in
theorem walk_g {l : PySem.W.OpenLaw} {q : Program} {loose : List Str} {XP : (Str → Option Value) → Heap → Prop} {YP : World → Heap → Prop} {d : DefRec} {K : Params → PySem.W.Frag}
    (hn : l.most = some 63) (hdf : d.params.defaults = []) (hi : importsNone q = true) (hY : ∀ (w : World) (h : Heap), YP w h → (K w.params).In h)
    (F : ∀ (w : World) (mg : Str → Option Value) (fa : Addr) (h : Heap), (K w.params).In h → h.Ns mainGlobals mg → mg d.name = some (.ref fa) → LawOk l.prog w (K w.params) mg fa) :
    PySem.W.WalkO q loose XP YP l.row.toRowW d [] (fun f vs => PySem.call f vs) := by
  refine Att.attach_call hn hdf fun w s₀ t mg mb fa o pm cd doc a vs ns G Y ho hd hcd hmg hobj hints hlen hg => ?_
  have kin := hY w _ Y
  have L := F w mg fa _ kin G.T.g hmg
  have rv := vals_ints hints
  have small : ns.length ≤ sizeLine := Nat.le_trans hlen (by decide)
  obtain ⟨mm, ⟨os, es, ep, hos, hod, _⟩, _⟩ := (G.T.seer hi).mods
  cases hk : (K w.params).lookup a with
  | some u =>
    have z := kin a u hk
    rw [hobj] at z
    cases z
    refine core_end (H := fun _ => none) kin G.T.g G.T.b G.T.builtins G.T.nolimit hg hobj (fun _ => .inl rfl) (fun b u z => nomatch z) (fun b o z => nomatch z) (fun o z => nomatch z) fun base up e0 => ?_
    exact L base t _ a ns hlen ⟨_, up _ _ hos rfl⟩ e0 (.inr ⟨_, vs.toArray, _, hk, rfl, rfl, rfl, by rw [List.size_toArray, hints.length]; exact small, by simpa using rv⟩)
  | none =>
    refine core_end (H := fun b => if b = a then some (.frz { cls := .type "list", data := .seq vs.toArray } (.lst (ns.map V.int))) else none) kin G.T.g G.T.b G.T.builtins G.T.nolimit hg hobj (fun b => ?_) (fun b u z => ?_) (fun b o z => ?_) (fun _ _ => hk) fun base up e0 => ?_
    · by_cases e : b = a
      · exact .inr ⟨_, _, if_pos e⟩
      · exact .inl (if_neg e)
    · by_cases e : b = a
      · cases (if_pos e).symm.trans z
        subst e
        exact ⟨hobj, by rw [List.length_map]; exact small, vs, _, rv, hobj⟩
      · cases (if_neg e).symm.trans z
    · by_cases e : b = a
      · exact e
      · cases (if_neg e).symm.trans z
    · have ne : sysModules ≠ a := fun z => by
        rw [z, hobj] at hos
        cases hos
        cases hod
      have h1 := L base t _ a ns hlen ⟨_, up _ _ hos (if_neg ne)⟩ e0
      exact h1 (.inl (.inr ⟨_, if_pos rfl⟩))
open PySem.Spec PyProof.Rows in
theorem guards_caller : callerA.guards = some [] := rfl
section
variable {X : Cx}
open PySem.Spec PyProof.Rows in
/-- repr(x), x of lists, tuples, ints, texts, truths, None -/
theorem call_reprD (hg : X.A.guards = some []) (hu : X.A.units + 80 < cLine) : CallR X (.builtin "repr") (fun xs H Q => ∃ (a : Addr) (d : PyData), xs = [.ref a] ∧ Dp X.K H (.ref a) d ∧ d.showable = true ∧ d.hasDict = false ∧ d.depth ≤ 64 ∧ d.shown.length ≤ sizeLine ∧ Q (.str d.shown) H) := by
  intro pins s σ H xs us Q I r h
  obtain ⟨a, d, rfl, hd, hs, hn, hz, hl, q⟩ := h
  obtain ⟨u, rfl, ru⟩ := vals1 r
  obtain ⟨as, rd⟩ := Dp.reads I d _ u hd ru
  obtain rfl : u = Value.ref a := ru
  refine repr_of_reads' rd hs (PyData.noDict_hsm hn) hg (by omega) (fun _ _ z => z) (fun h' u tk hk => ?_) hl
  exact ⟨.str d.shown, H, I.kept hk, ⟨_, rfl⟩, q⟩
end
theorem ru80 {k : Nat} {A : Around} (hr : Room k A) : A.units + 80 < cLine := by
  have := hr.un
  omega
open PySem.Spec PyProof.Rows in
theorem law_at {P : Program} {w : World} {K : PySem.W.Frag} {mg : Str → Option Value} {st : Stmt} {f : Addr} {fd : FuncData} {N : List Str} {p : Str} {k : Nat}
    (D : Df K mg "law" st [p] f fd) (S : FnScope N [p] (defScope st)) (room : Room (k + 1) callerA)
    (body : ∀ (base : Heap) (t : Shared) (H : Hp) (a : Addr) (ns : List Int) (cdv : Value), ns.length ≤ 63 → (∃ o, base.get? sysModules = some o) → SqL K H a (ns.map V.int) →
      Room k (callerA.deeper (envOfC "law" (defScope st) t.heap.objs.size f cdv)) →
      ∃ tm, PSs (cxOf CX0 P w K mg base N "law" (defScope st) f cdv callerA [] t H E0).nox (defBody st) tm ∧
        tm { nx := fun _ _ => V.non = .bl true, rt := fun v _ => v = .bl true } (start N [.ref a]) H) : LawOk P w K mg f := by
  intro base t H a ns hl hm e0 hS
  have kin : K.In t.heap := e0.mod.kin.keeps fun b o z => (e0.bs b o z).1
  exact at_call (vs := [.ref a]) D.F S rfl room e0 (D.b t [.ref a] kin rfl) (.cons rfl .nil) fun cdv hr => body base t H a ns cdv hl hm hS hr
/-! ### things of any depth: None, truths, ints, texts, lists, tuples, {} -/
mutual
inductive Dq (H : Hp) : V → PyData → Prop
  | non : Dq H .non .none
  | bl (b : Bool) : Dq H (.bl b) (.bool b)
  | int (i : Int) : Dq H (.int i) (.int i)
  | str (x : Str) : Dq H (.str x) (.str x)
  | lst {a : Addr} {xs : List V} {ds : List PyData} : H a = some (.lst xs) → DqAll H xs ds → Dq H (.ref a) (.list ds)
  | tup {a : Addr} {xs : List V} {ds : List PyData} : H a = some (.tup xs) → DqAll H xs ds → Dq H (.ref a) (.tuple ds)
  | dic {a : Addr} : H a = some (.dK []) → Dq H (.ref a) (.dict [])
inductive DqAll (H : Hp) : List V → List PyData → Prop
  | nil : DqAll H [] []
  | cons {v : V} {vs : List V} {d : PyData} {ds : List PyData} : Dq H v d → DqAll H vs ds → DqAll H (v :: vs) (d :: ds)
end
theorem DqAll.length {H : Hp} : ∀ {vs : List V} {ds : List PyData}, DqAll H vs ds → vs.length = ds.length
  | [], _, h => by
    cases h
    rfl
  | _ :: vs, _, h => by
    cases h with
    | cons _ h2 => exact congrArg (· + 1) (DqAll.length h2)
theorem DqAll.append {H : Hp} : ∀ {vs ws : List V} {ds es : List PyData}, DqAll H vs ds → DqAll H ws es → DqAll H (vs ++ ws) (ds ++ es)
  | [], _, _, _, h, k => by
    cases h
    exact k
  | _ :: _, _, _, _, h, k => by
    cases h with
    | cons h1 h2 => exact .cons h1 (DqAll.append h2 k)
theorem DqAll.get {H : Hp} : ∀ {vs : List V} {ds : List PyData} {i : Nat} {v : V}, DqAll H vs ds → vs[i]? = some v → ∃ d, ds[i]? = some d ∧ Dq H v d
  | [], _, _, _, _, e => by simp at e
  | x :: vs, _, 0, v, h, e => by
    cases h with
    | cons h1 h2 =>
      cases (Option.some.inj e)
      exact ⟨_, rfl, h1⟩
  | x :: vs, _, i + 1, v, h, e => by
    cases h with
    | cons h1 h2 => exact DqAll.get (i := i) h2 (show vs[i]? = some v from e)
theorem DqAll.take {H : Hp} : ∀ {vs : List V} {ds : List PyData} (n : Nat), DqAll H vs ds → DqAll H (vs.take n) (ds.take n)
  | _, _, 0, _ => by
    rw [List.take_zero, List.take_zero]
    exact .nil
  | [], _, n + 1, h => by
    cases h
    exact .nil
  | _ :: _, _, n + 1, h => by
    cases h with
    | cons h1 h2 => exact .cons h1 (DqAll.take n h2)
theorem DqAll.drop {H : Hp} : ∀ {vs : List V} {ds : List PyData} (n : Nat), DqAll H vs ds → DqAll H (vs.drop n) (ds.drop n)
  | _, _, 0, h => h
  | [], _, n + 1, h => by
    cases h
    exact .nil
  | _ :: _, _, n + 1, h => by
    cases h with
    | cons h1 h2 => exact DqAll.drop n h2
theorem DqAll.rev {H : Hp} : ∀ {vs : List V} {ds : List PyData}, DqAll H vs ds → DqAll H vs.reverse ds.reverse
  | [], _, h => by
    cases h
    exact .nil
  | v :: vs, _, h => by
    cases h with
    | cons h1 h2 =>
      rw [List.reverse_cons, List.reverse_cons]
      exact (DqAll.rev h2).append (.cons h1 .nil)
mutual
theorem Dq.mono {H H' : Hp} (s : ∀ a o, H a = some o → (∀ xs, o = .lst xs → H' a = some o) ∧ (∀ xs, o = .tup xs → H' a = some o) ∧ (o = .dK [] → H' a = some o)) : ∀ (d : PyData) (v : V), Dq H v d → Dq H' v d
  | .none, _, h => by
    cases h
    exact .non
  | .bool b, _, h => by
    cases h
    exact .bl b
  | .int i, _, h => by
    cases h
    exact .int i
  | .str x, _, h => by
    cases h
    exact .str x
  | .list ds, _, h => by
    cases h with
    | lst e k => exact .lst ((s _ _ e).1 _ rfl) (Dq.monoAll s ds _ k)
  | .tuple ds, _, h => by
    cases h with
    | tup e k => exact .tup ((s _ _ e).2.1 _ rfl) (Dq.monoAll s ds _ k)
  | .dict _, _, h => by
    cases h with
    | dic e => exact .dic ((s _ _ e).2.2 rfl)
theorem Dq.monoAll {H H' : Hp} (s : ∀ a o, H a = some o → (∀ xs, o = .lst xs → H' a = some o) ∧ (∀ xs, o = .tup xs → H' a = some o) ∧ (o = .dK [] → H' a = some o)) : ∀ (ds : List PyData) (vs : List V), DqAll H vs ds → DqAll H' vs ds
  | [], _, h => by
    cases h
    exact .nil
  | d :: ds, _, h => by
    cases h with
    | cons h1 h2 => exact .cons (Dq.mono s d _ h1) (Dq.monoAll s ds _ h2)
end
theorem Dq.same {H H' : Hp} {v : V} {d : PyData} (h : Dq H v d) (s : Same H H') : Dq H' v d := Dq.mono (fun _ _ e => ⟨fun _ _ => s _ _ e, fun _ _ => s _ _ e, fun _ => s _ _ e⟩) d v h
theorem DqAll.same {H H' : Hp} {v : List V} {d : List PyData} (h : DqAll H v d) (s : Same H H') : DqAll H' v d := Dq.monoAll (fun _ _ e => ⟨fun _ _ => s _ _ e, fun _ _ => s _ _ e, fun _ => s _ _ e⟩) d v h
section
variable {X : Cx} {pins : List (Addr × Obj)} {σ : L2.St} {H : Hp} {s : Shared}
open PySem.Spec PyProof.Rows
theorem tracked_ne (I : L2.Inv X pins σ H s) (hm : ∃ o, X.base.get? sysModules = some o) {a : Addr} {o : HO} (e : H a = some o) : sysModules ≠ a := fun z => by
  obtain ⟨ob, hb⟩ := hm
  have n := (I.bs _ _ hb).2
  rw [z, e] at n
  cases n
mutual
theorem Dq.reads (I : L2.Inv X pins σ H s) (hm : ∃ o, X.base.get? sysModules = some o) : ∀ (d : PyData) (v : V) (u : Value), Dq H v d → L2.RelV v u → ∃ as, Reads s.heap u d as ∧ sysModules ∉ as
  | .none, _, _, h, r => by
    cases h
    cases r
    exact ⟨_, Reads.none, by simp⟩
  | .bool b, _, _, h, r => by
    cases h
    cases r
    exact ⟨_, Reads.bool b, by simp⟩
  | .int i, _, _, h, r => by
    cases h
    obtain ⟨t, rfl⟩ := r
    exact ⟨_, Reads.int i t, by simp⟩
  | .str x, _, _, h, r => by
    cases h
    obtain ⟨t, rfl⟩ := r
    exact ⟨_, Reads.str x t, by simp⟩
  | .list ds, _, _, h, r => by
    cases h with
    | lst e k =>
      cases r
      have ne := tracked_ne I hm e
      obtain ⟨its, rv, ⟨o, n, ho, hc, _, hd⟩, _⟩ := I.list (SqL.of e)
      obtain ⟨as, hr, hn⟩ := Dq.readsAll I hm ds _ its k rv
      exact ⟨_, Reads.list ho hc hd hr, fun z => by
        rcases List.mem_cons.mp z with z | z
        · exact ne z
        · exact hn z⟩
  | .tuple ds, _, _, h, r => by
    cases h with
    | tup e k =>
      cases r
      obtain ⟨its, rv, ⟨o, ho, hc, n, hd⟩, _⟩ := I.tuple (SqT.of e)
      obtain ⟨as, hr, hn⟩ := Dq.readsAll I hm ds _ its k rv
      exact ⟨_, Reads.tuple ho hc hd hr, hn⟩
  | .dict _, _, _, h, r => by
    cases h with
    | dic e =>
      cases r
      have ne := tracked_ne I hm e
      obtain ⟨_, _, vs, kv, o, es, ep, h1, h2, h3, h4, h6, _⟩ := I.hok _ _ e
      cases kv
      have h5 : es.toList = [] := by
        revert h6
        cases es.toList with
        | nil => exact fun _ => rfl
        | cons x y =>
          intro z
          cases z
      refine ⟨_, Reads.dict (kvs := []) (as := []) (bs := []) h1 h2.1 h3 (by rw [h5]; exact .nil) (by rw [h5]; exact .nil), fun z => ?_⟩
      rcases List.mem_cons.mp z with z | z
      · exact ne z
      · simp at z
theorem Dq.readsAll (I : L2.Inv X pins σ H s) (hm : ∃ o, X.base.get? sysModules = some o) : ∀ (ds : List PyData) (vs : List V) (us : List Value), DqAll H vs ds → L2.Vals vs us → ∃ as, ReadsAll s.heap us ds as ∧ sysModules ∉ as
  | [], _, _, h, r => by
    cases h
    cases r
    exact ⟨_, ReadsAll.nil, by simp⟩
  | d :: ds, _, _, h, r => by
    cases h with
    | cons h1 h2 =>
      cases r with
      | cons r1 r2 =>
        obtain ⟨as, q1, n1⟩ := Dq.reads I hm d _ _ h1 r1
        obtain ⟨bs, q2, n2⟩ := Dq.readsAll I hm ds _ _ h2 r2
        exact ⟨_, ReadsAll.cons q1 q2, fun z => (List.mem_append.mp z).elim n1 n2⟩
end
end
section
variable {X : Cx}
open PySem.Spec PyProof.Rows in
/-- repr(x), x any such thing -/
theorem call_reprQ (hm : ∃ o, X.base.get? sysModules = some o) (hg : X.A.guards = some []) (hu : X.A.units + 80 < cLine) : CallR X (.builtin "repr") (fun xs H Q => ∃ (x : V) (d : PyData), xs = [x] ∧ Dq H x d ∧ d.showable = true ∧ d.depth ≤ 64 ∧ d.shown.length ≤ sizeLine ∧ Q (.str d.shown) H) := by
  intro pins s σ H xs us Q I r h
  obtain ⟨x, d, rfl, hd, hs, hz, hl, q⟩ := h
  obtain ⟨u, rfl, ru⟩ := vals1 r
  cases hd with
  | non =>
    obtain rfl : u = Value.none := ru
    exact PySem.P.repr_of_none ⟨.str _, H, I.tok _, ⟨_, rfl⟩, q⟩
  | bl b =>
    obtain rfl : u = Value.bool b := ru
    exact PySem.P.repr_of_bool ⟨.str _, H, I.tok _, ⟨_, rfl⟩, q⟩
  | int i =>
    obtain ⟨t, rfl⟩ := ru
    exact PySem.P.repr_of_int (by simpa [PyData.showable] using hs) ⟨.str _, H, I.tok _, ⟨_, rfl⟩, q⟩
  | str z =>
    obtain ⟨t, rfl⟩ := ru
    exact PySem.P.repr_of_str ⟨.str _, H, I.tok _, ⟨_, rfl⟩, q⟩ hl
  | @lst a xs ds e k =>
    obtain ⟨as, rd, hn⟩ := Dq.reads I hm (.list ds) _ u (.lst e k) ru
    obtain rfl : u = Value.ref a := ru
    refine repr_of_reads' rd hs (fun _ => hn) hg (by omega) (fun _ _ z => z) (fun h' u tk hk => ?_) hl
    exact ⟨.str _, H, I.kept hk, ⟨_, rfl⟩, q⟩
  | @tup a xs ds e k =>
    obtain ⟨as, rd, hn⟩ := Dq.reads I hm (.tuple ds) _ u (.tup e k) ru
    obtain rfl : u = Value.ref a := ru
    refine repr_of_reads' rd hs (fun _ => hn) hg (by omega) (fun _ _ z => z) (fun h' u tk hk => ?_) hl
    exact ⟨.str _, H, I.kept hk, ⟨_, rfl⟩, q⟩
  | @dic a e =>
    obtain ⟨as, rd, hn⟩ := Dq.reads I hm (.dict []) _ u (.dic e) ru
    obtain rfl : u = Value.ref a := ru
    refine repr_of_reads' rd hs (fun _ => hn) hg (by omega) (fun _ _ z => z) (fun h' u tk hk => ?_) hl
    exact ⟨.str _, H, I.kept hk, ⟨_, rfl⟩, q⟩
end
/-! ### how great a thing is -/
def Gd (n m : Nat) (d : PyData) : Prop := d.showable = true ∧ d.leavesShort 120 = true ∧ d.weight ≤ n ∧ d.depth ≤ m
def GdAll (n m : Nat) (ds : List PyData) : Prop := PyData.showableAll ds = true ∧ PyData.leavesShortAll 120 ds = true ∧ PyData.weightAll ds ≤ n ∧ PyData.depthAll ds ≤ m
theorem Gd.mono {n m n' m' : Nat} {d : PyData} (h : Gd n m d) (a : n ≤ n') (b : m ≤ m') : Gd n' m' d := ⟨h.1, h.2.1, by have := h.2.2.1; omega, by have := h.2.2.2; omega⟩
theorem GdAll.mono {n m n' m' : Nat} {d : List PyData} (h : GdAll n m d) (a : n ≤ n') (b : m ≤ m') : GdAll n' m' d := ⟨h.1, h.2.1, by have := h.2.2.1; omega, by have := h.2.2.2; omega⟩
theorem GdAll.nil {n m : Nat} : GdAll n m [] := ⟨by simp [PyData.showableAll], by simp [PyData.leavesShortAll], by simp [PyData.weightAll], by simp [PyData.depthAll]⟩
theorem GdAll.cons {a b m : Nat} {d : PyData} {ds : List PyData} (h : Gd a m d) (k : GdAll b m ds) : GdAll (a + 1 + b) m (d :: ds) := by
  obtain ⟨h1, h2, h3, h4⟩ := h
  obtain ⟨k1, k2, k3, k4⟩ := k
  refine ⟨by simp [PyData.showableAll, h1, k1], by simp [PyData.leavesShortAll, h2, k2], ?_, ?_⟩
  · simp only [PyData.weightAll]
    omega
  · simp only [PyData.depthAll]
    omega
theorem GdAll.head {n m : Nat} {d : PyData} {ds : List PyData} (h : GdAll n m (d :: ds)) : ∃ a b, a + 1 + b ≤ n ∧ Gd a m d ∧ GdAll b m ds := by
  obtain ⟨h1, h2, h3, h4⟩ := h
  simp only [PyData.showableAll, Bool.and_eq_true] at h1
  simp only [PyData.leavesShortAll, Bool.and_eq_true] at h2
  simp only [PyData.weightAll] at h3
  simp only [PyData.depthAll] at h4
  exact ⟨d.weight, PyData.weightAll ds, h3, ⟨h1.1, h2.1, Nat.le_refl _, by omega⟩, ⟨h1.2, h2.2, Nat.le_refl _, by omega⟩⟩
theorem GdAll.append {m : Nat} : ∀ {a b : Nat} {xs ys : List PyData}, GdAll a m xs → GdAll b m ys → GdAll (a + b) m (xs ++ ys)
  | _, _, [], _, _, k => k.mono (by omega) (by omega)
  | a, b, x :: xs, _, h, k => by
    obtain ⟨u, v, e, h1, h2⟩ := h.head
    exact (GdAll.cons h1 (GdAll.append h2 k)).mono (by omega) (by omega)
theorem GdAll.split {m : Nat} : ∀ {n : Nat} (xs : List PyData) {ys : List PyData}, GdAll n m (xs ++ ys) → ∃ a b, a + b ≤ n ∧ GdAll a m xs ∧ GdAll b m ys
  | n, [], _, h => ⟨0, n, by omega, .nil, h⟩
  | n, x :: xs, _, h => by
    obtain ⟨u, v, e, h1, h2⟩ := GdAll.head (show GdAll n m (x :: (xs ++ _)) from h)
    obtain ⟨a, b, e2, k1, k2⟩ := GdAll.split xs h2
    exact ⟨u + 1 + a, b, by omega, .cons h1 k1, k2⟩
theorem GdAll.cut {n m : Nat} {ds : List PyData} (i : Nat) (h : GdAll n m ds) : ∃ a b, a + b ≤ n ∧ GdAll a m (ds.take i) ∧ GdAll b m (ds.drop i) := by
  rw [← List.take_append_drop i ds] at h
  exact GdAll.split _ h
theorem GdAll.take {n m : Nat} {ds : List PyData} (i : Nat) (h : GdAll n m ds) : GdAll n m (ds.take i) := by
  obtain ⟨a, b, e, h1, _⟩ := h.cut i
  exact h1.mono (by omega) (by omega)
theorem GdAll.drop {n m : Nat} {ds : List PyData} (i : Nat) (h : GdAll n m ds) : GdAll n m (ds.drop i) := by
  obtain ⟨a, b, e, _, h1⟩ := h.cut i
  exact h1.mono (by omega) (by omega)
theorem GdAll.rev {m : Nat} : ∀ {n : Nat} {ds : List PyData}, GdAll n m ds → GdAll n m ds.reverse
  | _, [], h => h
  | n, x :: xs, h => by
    obtain ⟨u, v, e, h1, h2⟩ := h.head
    rw [List.reverse_cons]
    exact ((GdAll.rev h2).append (GdAll.cons h1 (GdAll.nil (n := 0)))).mono (by omega) (by omega)
theorem GdAll.get {m : Nat} : ∀ {n : Nat} {ds : List PyData} {i : Nat} {d : PyData}, GdAll n m ds → ds[i]? = some d → Gd n m d
  | _, [], _, _, _, e => by simp at e
  | n, x :: xs, 0, d, h, e => by
    obtain ⟨u, v, e2, h1, h2⟩ := h.head
    cases (Option.some.inj e)
    exact h1.mono (by omega) (by omega)
  | n, x :: xs, i + 1, d, h, e => by
    obtain ⟨u, v, e2, h1, h2⟩ := h.head
    exact (GdAll.get (i := i) h2 (show xs[i]? = some d from e)).mono (by omega) (by omega)
theorem Gd.tup {n m : Nat} {ds : List PyData} (h : GdAll n m ds) : Gd n (m + 1) (.tuple ds) := by
  obtain ⟨h1, h2, h3, h4⟩ := h
  exact ⟨by simp only [PyData.showable]; exact h1, by simp only [PyData.leavesShort]; exact h2, by simp only [PyData.weight]; exact h3, by simp only [PyData.depth]; omega⟩
theorem Gd.lst {n m : Nat} {ds : List PyData} (h : GdAll n m ds) : Gd n (m + 1) (.list ds) := by
  obtain ⟨h1, h2, h3, h4⟩ := h
  exact ⟨by simp only [PyData.showable]; exact h1, by simp only [PyData.leavesShort]; exact h2, by simp only [PyData.weight]; exact h3, by simp only [PyData.depth]; omega⟩
theorem Gd.of_tup {n m : Nat} {ds : List PyData} (h : Gd n m (.tuple ds)) : GdAll n m ds := by
  obtain ⟨h1, h2, h3, h4⟩ := h
  simp only [PyData.showable] at h1
  simp only [PyData.leavesShort] at h2
  simp only [PyData.weight] at h3
  simp only [PyData.depth] at h4
  exact ⟨h1, h2, h3, by omega⟩
theorem Gd.shown {n m : Nat} {d : PyData} (h : Gd n m d) (hn : n ≤ 100000) : d.shown.length ≤ sizeLine := by
  have z := PyData.shown_le 120 (by decide) d h.2.1
  have k := h.2.2.1
  have e : sizeLine = 16777216 := by decide
  omega
theorem Gd.int {i : Int} {k : Nat} (hk : 0 < k) (hk2 : k ≤ 110) (h : i.natAbs < 2 ^ k) : Gd (k + 1) 0 (.int i) := by
  refine ⟨?_, ?_, ?_, ?_⟩
  · simp only [PyData.showable, decide_eq_true_eq]
    exact Nat.lt_of_lt_of_le (PySem.Flt.log2_lt_of hk h) (by omega)
  · simp only [PyData.leavesShort, decide_eq_true_eq]
    have z := PySem.Flt.log2_lt_of hk h
    have e := int_text_length_le (a := i) (k := k) hk z
    show (Str.ofString (toString i)).length ≤ 120
    rw [PySem.ofString_length]
    omega
  · have z := PySem.Flt.log2_lt_of hk h
    simp only [PyData.weight]
    split <;> omega
  · simp [PyData.depth]
/-! ### the mathematics -/
def isInt : PyData → Bool
  | .int _ => true
  | _ => false
def isTup : PyData → Bool
  | .tuple _ => true
  | _ => false
def isNumD (p : Int) : PyData → Bool
  | .int i => decide (0 ≤ i) && decide (i < p)
  | _ => false
def isPairD (p : Int) : PyData → Bool
  | .tuple [x, y] => isNumD p x && isNumD p y
  | _ => false
def isRowD (p n : Int) : PyData → Bool
  | .tuple ds => decide ((ds.length : Int) = n) && ds.all (isPairD p)
  | _ => false
theorem Dq.ty {K : PySem.W.Frag} {H : Hp} {x : V} {d : PyData} (h : Dq H x d) : ∃ t, TyB1 K H x t ∧ (isB t "int" && !isB t "bool") = isInt d ∧ isB t "tuple" = isTup d := by
  cases h with
  | non => exact ⟨"NoneType", ⟨.base .non, by simp⟩, by decide +kernel, by decide +kernel⟩
  | bl b => exact ⟨"bool", ⟨.base (.bl b), by simp⟩, (by show (isB "bool" "int" && !isB "bool" "bool") = false; decide +kernel), (by show isB "bool" "tuple" = false; decide +kernel)⟩
  | int i => exact ⟨"int", ⟨.base (.int i), by simp⟩, (by show (isB "int" "int" && !isB "int" "bool") = true; decide +kernel), (by show isB "int" "tuple" = false; decide +kernel)⟩
  | str z => exact ⟨"str", ⟨.base (.str z), by simp⟩, (by show (isB "str" "int" && !isB "str" "bool") = false; decide +kernel), (by show isB "str" "tuple" = false; decide +kernel)⟩
  | lst e k => exact ⟨"list", ⟨.base (.lst e), by simp⟩, (by show (isB "list" "int" && !isB "list" "bool") = false; decide +kernel), (by show isB "list" "tuple" = false; decide +kernel)⟩
  | tup e k => exact ⟨"tuple", ⟨.base (.tup e), by simp⟩, (by show (isB "tuple" "int" && !isB "tuple" "bool") = false; decide +kernel), (by show isB "tuple" "tuple" = true; decide +kernel)⟩
  | dic e => exact ⟨"dict", ⟨.base (.dK e), by simp⟩, (by show (isB "dict" "int" && !isB "dict" "bool") = false; decide +kernel), (by show isB "dict" "tuple" = false; decide +kernel)⟩
theorem isInt_of {H : Hp} {x : V} {d : PyData} (h : Dq H x d) (e : isInt d = true) : ∃ i, x = .int i ∧ d = .int i := by
  cases h <;> first | exact ⟨_, rfl, rfl⟩ | cases e
theorem isTup_of {H : Hp} {x : V} {d : PyData} (h : Dq H x d) (e : isTup d = true) : ∃ a xs ds, x = .ref a ∧ H a = some (.tup xs) ∧ DqAll H xs ds ∧ d = .tuple ds := by
  cases h <;> first | exact ⟨_, _, _, rfl, by assumption, by assumption, rfl⟩ | cases e
theorem num_false {p : Int} {d : PyData} (e : isInt d = false) : isNumD p d = false := by
  cases d <;> first | rfl | cases e
theorem row_false {p n : Int} {d : PyData} (e : isTup d = false) : isRowD p n d = false := by
  cases d <;> first | rfl | cases e
theorem pair_false {p : Int} {d : PyData} (e : isTup d = false) : isPairD p d = false := by
  cases d <;> first | rfl | cases e
theorem pair_len {p : Int} {ds : List PyData} (e : ¬ ((ds.length : Int) = 2)) : isPairD p (.tuple ds) = false := by
  match ds, e with
  | [], _ => rfl
  | [_], _ => rfl
  | [_, _], e => exact absurd rfl e
  | _ :: _ :: _ :: _, _ => rfl
theorem two_of {ds : List PyData} (e : (ds.length : Int) = 2) : ∃ x y, ds = [x, y] := by
  match ds, e with
  | [x, y], _ => exact ⟨x, y, rfl⟩
  | [], e => cases e
  | [_], e => cases e
  | _ :: _ :: _ :: r, e =>
    have e2 : ((r.length + 3 : Nat) : Int) = 2 := e
    omega
/-! ### t[::-1], t == () -/
section
open PySem.Spec PyProof.Rows PySem.Builtin HT
variable {prog : Program} {w : World} {A : Around} {E : Value → Shared → Prop} {s : Shared}
theorem adjust_back (n : Nat) : Slice.sliceAdjust none none (-1) (n : Int) = ((n : Int) - 1, -1) := by
  unfold Slice.sliceAdjust
  simp
theorem places_back (n : Nat) : Slice.slicePlaces ((n : Int) - 1) (-1) (-1) = n := by
  unfold Slice.slicePlaces
  rw [if_neg (by decide)]
  split
  · simp
  · omega
theorem applied_back {sl : Addr} {t : Tok} {n : Nat} {Q : Int × Int × Nat → Shared → Prop} (hs : s.heap.IsSliceOf sl .none .none (.int (-1) t))
    (h : Q ((n : Int) - 1, -1, n) s) : wpAny (model prog w) A (Slice.sliceApplied (.ref sl) (pure (n : Int))) Q E s := by
  obtain ⟨os, hos, hcs, hds⟩ := id hs
  unfold Slice.sliceApplied Slice.sliceFields
  refine wpAny_bind (wpAny_bind (wpAny_field hos hds (x := .none) rfl ?_))
  refine wpAny_bind (wpAny_field hos hds (x := .none) rfl ?_)
  refine wpAny_bind (wpAny_field hos hds (x := .int (-1) t) rfl (wpAny_pure ?_))
  refine wpAny_bind (slicePart_int ?_)
  show wpAny _ _ (if ((-1 : Int) == 0) = true then _ else _) _ _ s
  rw [if_neg (by decide)]
  refine wpAny_bind (slicePart_none ?_)
  refine wpAny_bind (slicePart_none ?_)
  refine wpAny_bind (wpAny_pure ?_)
  show wpAny _ _ (match Slice.sliceAdjust none none (-1) (n : Int) with | (lo, hi) => pure (lo, (-1 : Int), Slice.slicePlaces lo hi (-1))) _ _ s
  rw [adjust_back]
  show wpAny _ _ (pure ((n : Int) - 1, (-1 : Int), Slice.slicePlaces ((n : Int) - 1) (-1) (-1))) _ _ s
  rw [places_back]
  exact wpAny_pure h
theorem fm_some {α β : Type} (f : α → Option β) (g : α → β) : ∀ l : List α, (∀ x ∈ l, f x = some (g x)) → l.filterMap f = l.map g
  | [], _ => rfl
  | x :: r, h => by
    rw [List.filterMap_cons, h x (List.mem_cons_self ..), fm_some f g r fun y hy => h y (List.mem_cons_of_mem _ hy)]
    rfl
theorem pick_back (xs : Array Value) : ((List.range xs.size).filterMap fun (m : Nat) => xs[(((xs.size : Int) - 1) + (m : Int) * (-1)).toNat]?).toArray = xs.toList.reverse.toArray := by
  congr 1
  rw [fm_some _ (fun m => xs.toList.getD (xs.size - 1 - m) Value.none) _ fun m hm => ?_]
  · apply List.ext_getElem?
    intro i
    rw [List.getElem?_map]
    by_cases h : i < xs.size
    · have hr : (List.range xs.size)[i]? = some i := List.getElem?_range h
      rw [hr, List.getElem?_reverse (by rw [Array.length_toList]; exact h), Array.length_toList]
      have h2 : xs.size - 1 - i < xs.toList.length := by
        rw [Array.length_toList]
        omega
      show some (xs.toList.getD (xs.size - 1 - i) Value.none) = _
      rw [List.getD_eq_getElem?_getD, List.getElem?_eq_getElem h2]
      rfl
    · rw [List.getElem?_eq_none (by rw [List.length_range]; omega), List.getElem?_eq_none (by rw [List.length_reverse, Array.length_toList]; omega)]
      rfl
  · have h := List.mem_range.mp hm
    have e : (((xs.size : Int) - 1) + (m : Int) * (-1)).toNat = xs.size - 1 - m := by omega
    have h2 : xs.size - 1 - m < xs.toList.length := by
      rw [Array.length_toList]
      omega
    rw [e, ← Array.getElem?_toList, List.getD_eq_getElem?_getD, List.getElem?_eq_getElem h2]
    rfl
theorem item_back {t sl : Addr} {items : Array Value} {tk : Tok} {Q : Value → Shared → Prop} (ht : IsTup s.heap t items) (hs : s.heap.IsSliceOf sl .none .none (.int (-1) tk))
    (h : Q (.ref s.heap.objs.size) { s with heap := s.heap.push { cls := .type "tuple", data := .seq items.toList.reverse.toArray } })
    (hsz : items.size ≤ sizeLine) : wpAny (model prog w) A (getItem (.ref t) (.ref sl)) Q E s := by
  have fits : sizeOk (.seq items.toList.reverse.toArray) := by
    show items.toList.reverse.toArray.size ≤ sizeLine
    rw [List.size_toArray, List.length_reverse, Array.length_toList]
    exact hsz
  obtain ⟨os, hos, hcs, hds⟩ := id hs
  have ty : s.TypeIs (.ref sl) "slice" := ⟨os, hos, hcs⟩
  unfold getItem
  try with_reducible refine wpAny_holding ?_
  first
  | refine wpAny_bind (wpAny_pure ?_)
  | skip
  refine wpAny_bind (wpAny_sequenceKey ht.typeIs (by decide) ?_)
  refine wpAny_bind (wpAny_callSpecial?_slot (name := Str.ofString "__getitem__") ht.typeIs slot_tuple_getitem ?_)
  refine wpAny_call_entry slot_tuple_getitem ht.typeIs entry_tuple_getitem ?_ (args_tuple_getitem _ _)
  show wpAny _ _ (Tuple.tupleItemsOf (.ref t) >>= _) _ _ s
  refine wpAny_bind (tupleItemsOf_ ht ?_)
  refine wpAny_bind (wpAny_typeOf ty ?_)
  rw [if_pos (by decide)]
  refine wpAny_bind (applied_back hs ?_)
  have no : ¬ ((((items.size : Int) - 1) == 0 && (-1 : Int) == 1 && items.size == items.size) = true) := by
    intro z
    rw [Bool.and_eq_true, Bool.and_eq_true] at z
    exact absurd (eq_of_beq z.1.2) (by decide)
  show wpAny _ _ (if (((items.size : Int) - 1) == 0 && (-1 : Int) == 1 && items.size == items.size) = true then _ else _) _ _ s
  rw [if_neg no, pick_back]
  first
  | exact wpAny_bind (m := Tuple.tupleExact _) (wpAny_newObj_type (wpAny_pure ⟨_, rfl, wpAny_pure h⟩) fits)
  | exact wpAny_bind (m := Tuple.tupleExact _) (wpAny_newObj_type (wpAny_bind (wpAny_pure (wpAny_pure ⟨_, rfl, wpAny_pure h⟩))) fits)
  | exact wpAny_bind (wpAny_bind (m := Tuple.tupleExact _) (wpAny_newObj_type (wpAny_pure (wpAny_pure ⟨_, rfl, wpAny_pure h⟩)) fits))
  | exact wpAny_bind (wpAny_bind (m := Tuple.tupleExact _) (wpAny_newObj_type (wpAny_pure ⟨_, rfl, wpAny_pure h⟩) fits))
end
section
open PySem.Spec PyProof.Rows
variable {X : Cx}
def tRevT (K : PySem.W.Frag) (te : TE) : TE := fun σ H Q => te σ H fun x H1 => ∃ a xs, x = .ref a ∧ SqT K H1 a xs ∧ ∀ p, H1 p = none → Q (.ref p) (upd H1 p (.tup xs.reverse))
theorem pe_revT {e : Expr} {te : TE} {k : Nat} {p1 p2 p3 pos : Pos} (he : PE X e te) : PE X (.Subscript e (.Slice none none (some (.UnaryOp .USub (.Constant (.int 1) k p1) p2)) p3) pos) (tRevT X.K te) := by
  refine ⟨fun pins s σ H Q I h => Subscript_ (thn (he.run pins s σ H _ I h) fun v s1 ⟨x, H1, I1, r1, a, xs, ex, hx, q⟩ => ?_)⟩
  subst ex
  cases r1
  have back : PO X (some (.UnaryOp .USub (.Constant (.int 1) k p1) p2)) (tPart (tUn (rU fun i => .int (-i)) (tC (.int 1)))) := po_some (pe_un un_neg pe_int)
  refine wpAny_Slice (thn (po_none.run pins s1 σ H1 (fun o G => o = none ∧ G = H1) I1 ⟨rfl, rfl⟩) fun v1 s2 ⟨o1, G1, I2, part1, e1, g1⟩ => ?_)
  subst e1 g1
  refine thn (po_none.run pins s2 σ G1 (fun o G => o = none ∧ G = G1) I2 ⟨rfl, rfl⟩) fun v2 s3 ⟨o2, G2, I3, part2, e2, g2⟩ => ?_
  subst e2 g2
  refine thn (back.run pins s3 σ G2 (fun o G => o = some (-1) ∧ G = G2) I3 ⟨1, rfl, -1, rfl, rfl, rfl⟩) fun v3 s4 ⟨o3, G3, I4, part3, e3, g3⟩ => ?_
  subst e3 g3
  cases part1
  cases part2
  cases part3 with
  | int i tk =>
    have I5 : L2.Inv X pins σ G3 { s4 with heap := s4.heap.push { cls := .type "slice", data := .fields #[.none, .none, .int (-1) tk] } } := I4.kept (t' := s4.toks) fun b ob z => Heap.get?_push_of_some _ z
    obtain ⟨its, r, ht, hz⟩ := I5.tuple hx
    have hlen := r.length
    show wpAny (model X.prog X.w) X.A (subscriptTail e _ (.ref a) (.ref s4.heap.objs.size)) (EP X pins σ Q) X.xe _
    refine tail_any (ops := [.ref a, .ref s4.heap.objs.size]) ht.typeIs slot_tuple_getitem.lookup ?_ (by with_unfolding_all rfl)
    refine item_back ht (Heap.IsSliceOf.new _ .none .none (.int (-1) tk)) ?_ (by rw [List.size_toArray]; omega)
    refine ⟨.ref _, _, I5.laid (t' := s4.toks) (o := .tup xs.reverse) (fun b ob z => Heap.get?_push_of_some _ z) (Nat.le_refl _) ?_, rfl, q _ (I5.hok.fresh (Nat.le_refl _))⟩
    exact ⟨by rw [List.length_reverse]; exact hz, its.reverse, r.reverse, _, Heap.get?_push_size _ rfl, rfl, _, rfl⟩
/-- t == u for tuples of which the second is empty -/
theorem op_eqT0 (hu : X.A.units + 80 < cLine) : OpR X (compareOp .Eq) (fun x y H Q => ∃ a b xs, x = .ref a ∧ y = .ref b ∧ SqT X.K H a xs ∧ SqT X.K H b [] ∧ Q (.bl xs.isEmpty) H) := by
  intro pins s σ H x y v u Q I rx ry h
  obtain ⟨a, b, xs, rfl, rfl, ha, hb, q⟩ := h
  cases rx
  cases ry
  obtain ⟨its, r, ht, hz⟩ := I.tuple ha
  obtain ⟨its2, r2, ht2, _⟩ := I.tuple hb
  cases r2
  refine SeqAt.eq_tupleAt (e := fun _ => true) ht ht2 (by omega) (fun j h1 h2 => absurd h2 (by simp)) ?_
  refine ⟨.bl xs.isEmpty, H, I, ?_, q⟩
  cases r with
  | nil => rfl
  | cons _ _ =>
    simp
    rfl
end
/-! ### xs == [], xs != [] of lists of anything -/
section
open PySem.Spec PyProof.Rows
variable {X : Cx}
def rEqL0 (K : PySem.W.Frag) : R2 := fun x y H Q => ∃ a b xs, x = .ref a ∧ y = .ref b ∧ SqL K H a xs ∧ SqL K H b [] ∧ Q (.bl xs.isEmpty) H
def rNeL0 (K : PySem.W.Frag) : R2 := fun x y H Q => ∃ a b xs, x = .ref a ∧ y = .ref b ∧ SqL K H a xs ∧ SqL K H b [] ∧ Q (.bl (!xs.isEmpty)) H
theorem op_eqL0 (hu : X.A.units + 80 < cLine) : OpR X (compareOp .Eq) (rEqL0 X.K) := by
  intro pins s σ H x y v u Q I rx ry h
  obtain ⟨a, b, xs, rfl, rfl, ha, hb, q⟩ := h
  cases rx
  cases ry
  obtain ⟨its, r, ht, hz⟩ := I.list ha
  obtain ⟨its2, r2, ht2, _⟩ := I.list hb
  cases r2
  cases r with
  | nil => exact SeqAt.eq_listAt (e := fun _ => true) ht.isList ht2.isList rfl (by omega) (fun j h1 h2 => absurd h2 (by simp)) ⟨.bl true, H, I, rfl, q⟩
  | cons _ _ => exact SeqAt.eq_list_lengthsAt ht.isList ht2.isList (by simp) (by omega) ⟨.bl false, H, I, rfl, q⟩
theorem op_neL0 (hu : X.A.units + 80 < cLine) : OpR X (compareOp .NotEq) (rNeL0 X.K) := by
  intro pins s σ H x y v u Q I rx ry h
  obtain ⟨a, b, xs, rfl, rfl, ha, hb, q⟩ := h
  cases rx
  cases ry
  obtain ⟨its, r, ht, hz⟩ := I.list ha
  obtain ⟨its2, r2, ht2, _⟩ := I.list hb
  cases r2
  cases r with
  | nil => exact SeqAt.RcNeAt.lists (e := fun _ => true) ht.isList ht2.isList rfl (by omega) (fun j h1 h2 => absurd h2 (by simp)) _ _ _ _ ⟨.bl false, H, I, rfl, q⟩
  | cons _ _ => exact SeqAt.RcNeAt.lists_lengths ht.isList ht2.isList (by simp) (by omega) _ _ _ _ ⟨.bl true, H, I, rfl, q⟩
end
/-! ### t * 2, t empty or not -/
section
open PySem.Spec PyProof.Rows
theorem tuple_mulE (l : Addr) (n : Nat) (dd : Option Addr) (sl : Array (Option Value)) (u : Tok) :
    Meets (Builtin.«tuple.__mul__» ⟨[.ref l, .int 2 u], []⟩) (fun _ R s => s.heap.get? l = some { cls := .type "tuple", dict := dd, data := .seq #[] n, slots := sl } ∧ R (.ok (.ret (Value.ref l))) s) :=
  .of_wp fun prog w A R s h => by
    obtain ⟨hp, g, d, tk, os⟩ := s
    obtain ⟨hl, h⟩ := h
    have f1 := AutoSeq1.idx_int
    wp_walk using wpAny_loadPart' hl
    repeat (first
      | (refine wpAny_ite_false (decide_eq_false (by decide)) ?_; wp_walk using wpAny_loadPart' hl)
      | (refine wpAny_ite_true (decide_eq_true (by simp)) ?_; wp_walk using wpAny_loadPart' hl))
    exact ⟨_, rfl, h⟩
variable {X : Cx}
def rRep2 (K : PySem.W.Frag) : R2 := fun x y H Q => ∃ l xs, x = .ref l ∧ y = .int 2 ∧ SqT K H l xs ∧ xs.length ≤ 1000 ∧ (xs = [] → Q (.ref l) H) ∧ (xs ≠ [] → ∀ p, H p = none → Q (.ref p) (upd H p (.tup (xs ++ xs))))
theorem op_rep2 : OpR X (binaryOp .Mult) (rRep2 X.K) := by
  intro pins s σ H x y v u Q I rx ry h
  obtain ⟨l, xs, rfl, rfl, hT, hz, q0, q1⟩ := h
  by_cases hne : xs = []
  · subst hne
    cases rx
    obtain ⟨t, rfl⟩ := ry
    obtain ⟨its, r, ⟨⟨cls, dd, data, sl⟩, ho, hc, n, hd⟩, hs⟩ := I.tuple hT
    cases r
    simp only at hc hd
    subst hc hd
    refine wpAny_binaryOp_repeat_ref (T := "tuple") (U := "int") (by decide) ⟨_, ho, rfl⟩ (fun s' => typeIs_int s' 2 t) noFill_tuple_mul F.fills_int_mul F.slot_int_rmul repeat_tuple F.slot_int_index.lookup
      (call_meets F.slot_int_rmul (typeIs_int s 2 t) F.entry_int_rmul (F.args_int_rmul_2 _ _) (int_rmul_tuple 2 t l #[] n dd sl)
        ⟨ho, rfl, ⟨_, ho, rfl⟩, call_meets F.slot_tuple_mul ⟨_, ho, rfl⟩ F.entry_tuple_mul (F.args_tuple_mul_2 _ _) (tuple_mulE l n dd sl t) ⟨ho, ?_⟩⟩)
    exact ⟨.ref l, H, I, rfl, q0 rfl⟩
  · refine op_repT pins s σ H _ _ v u Q I rx ry ⟨l, 2, xs, rfl, rfl, hT, hne, by decide, by decide, hz, fun p hp => ?_⟩
    have e : (List.replicate (2 : Int).toNat xs).flatten = xs ++ xs := by
      show xs ++ (xs ++ []) = xs ++ xs
      rw [List.append_nil]
    rw [e]
    exact q1 hne p hp
end
/-! ### things beside the deck -/
def cut (d g : Addr) (H : Hp) : Hp := fun a => if a = d ∨ a = g then none else H a
theorem cut_same {d g : Addr} {H : Hp} : Same (cut d g H) H := fun a o e => by
  unfold cut at e
  split at e
  · cases e
  · exact e
theorem cut_at {d g a : Addr} {H : Hp} {o : HO} (h1 : a ≠ d) (h2 : a ≠ g) (e : H a = some o) : cut d g H a = some o := by
  unfold cut
  rw [if_neg (fun z => z.elim h1 h2)]
  exact e
theorem Fr.cut {d g : Addr} {H H' : Hp} (f : Fr d g H H') : Same (cut d g H) (cut d g H') := fun a o e => by
  unfold Kp.cut at e ⊢
  split at e
  · cases e
  · rename_i n
    rw [if_neg n]
    exact f a o (fun z => n (.inl z)) (fun z => n (.inr z)) e
theorem cut_upd {d g L : Addr} {H : Hp} {o : HO} : Fr L L (cut d g H) (cut d g (upd H L o)) := fun a x h1 _ e => by
  unfold Kp.cut at e ⊢
  split at e
  · cases e
  · rename_i n
    rw [if_neg n, upd_ne h1]
    exact e
def Thg (d g : Addr) (n m : Nat) (H : Hp) (x : V) : Prop := ∃ dd, Dq (cut d g H) x dd ∧ Gd n m dd
def Ths (d g : Addr) (n m : Nat) (H : Hp) (xs : List V) : Prop := ∃ ds, DqAll (cut d g H) xs ds ∧ GdAll n m ds
section
variable {d g c : Addr} {k : Int} {n m n' m' : Nat} {H H' : Hp} {x : V} {xs ys : List V}
theorem Thg.fr (h : Thg d g n m H x) (f : Fr d g H H') : Thg d g n m H' x := let ⟨dd, h1, h2⟩ := h; ⟨dd, h1.same f.cut, h2⟩
theorem Ths.fr (h : Ths d g n m H xs) (f : Fr d g H H') : Ths d g n m H' xs := let ⟨dd, h1, h2⟩ := h; ⟨dd, h1.same f.cut, h2⟩
theorem Thg.mono (h : Thg d g n m H x) (a : n ≤ n') (b : m ≤ m') : Thg d g n' m' H x := let ⟨dd, h1, h2⟩ := h; ⟨dd, h1, h2.mono a b⟩
theorem Ths.mono (h : Ths d g n m H xs) (a : n ≤ n') (b : m ≤ m') : Ths d g n' m' H xs := let ⟨dd, h1, h2⟩ := h; ⟨dd, h1, h2.mono a b⟩
theorem Ths.nil : Ths d g n m H [] := ⟨[], .nil, .nil⟩
theorem Ths.cons (h : Thg d g n m H x) (t : Ths d g n' m H xs) : Ths d g (n + 1 + n') m H (x :: xs) := let ⟨a, h1, h2⟩ := h; let ⟨b, t1, t2⟩ := t; ⟨a :: b, .cons h1 t1, .cons h2 t2⟩
theorem Ths.append (h : Ths d g n m H xs) (t : Ths d g n' m H ys) : Ths d g (n + n') m H (xs ++ ys) := let ⟨a, h1, h2⟩ := h; let ⟨b, t1, t2⟩ := t; ⟨a ++ b, h1.append t1, h2.append t2⟩
theorem Ths.cutV (h : Ths d g n m H xs) (lo hi : Option Int) : Ths d g n m H (cutV xs lo hi) := let ⟨_, h1, h2⟩ := h; ⟨_, (h1.drop _).take _, (h2.drop _).take _⟩
theorem Ths.rev (h : Ths d g n m H xs) : Ths d g n m H xs.reverse := let ⟨_, h1, h2⟩ := h; ⟨_, h1.rev, h2.rev⟩
theorem Ths.get {i : Nat} (h : Ths d g n m H xs) (e : xs[i]? = some x) : Thg d g n m H x := by
  obtain ⟨ds, h1, h2⟩ := h
  obtain ⟨dd, e1, e2⟩ := h1.get e
  exact ⟨dd, e2, h2.get e1⟩
theorem GdAll.len {m : Nat} : ∀ {n : Nat} {ds : List PyData}, GdAll n m ds → ds.length ≤ n
  | _, [], _ => Nat.zero_le _
  | n, _ :: r, h => by
    obtain ⟨u, v, e, h1, h2⟩ := h.head
    have z := GdAll.len h2
    show r.length + 1 ≤ n
    omega
theorem Ths.len (h : Ths d g n m H xs) : xs.length ≤ n := by
  obtain ⟨ds, h1, h2⟩ := h
  rw [h1.length]
  exact h2.len
theorem Thg.newT {p : Addr} (D : Dk d g c k H) (hp : H p = none) (h : Ths d g n m H xs) : Thg d g n (m + 1) (upd H p (.tup xs)) (.ref p) := by
  obtain ⟨ds, h1, h2⟩ := h
  have np := D.nd hp
  exact ⟨.tuple ds, .tup (cut_at np.1 np.2.1 upd_same) (h1.same (Fr.new hp).cut), .tup h2⟩
theorem Thg.newL {p : Addr} (D : Dk d g c k H) (hp : H p = none) (h : Ths d g n m H xs) : Thg d g n (m + 1) (upd H p (.lst xs)) (.ref p) := by
  obtain ⟨ds, h1, h2⟩ := h
  have np := D.nd hp
  exact ⟨.list ds, .lst (cut_at np.1 np.2.1 upd_same) (h1.same (Fr.new hp).cut), .lst h2⟩
theorem Thg.tupOf {a : Addr} (e : H a = some (.tup xs)) (h1 : a ≠ d) (h2 : a ≠ g) (t : Ths d g n m H xs) : Thg d g n (m + 1) H (.ref a) := by
  obtain ⟨ds, k1, k2⟩ := t
  exact ⟨.tuple ds, .tup (cut_at h1 h2 e) k1, .tup k2⟩
theorem Thg.int {i : Int} (h : i.natAbs < 2 ^ 110) : Thg d g 111 m H (.int i) := ⟨.int i, .int i, (Gd.int (by decide) (by decide) h).mono (Nat.le_refl _) (Nat.zero_le _)⟩
theorem Thg.small {i : Int} (h : i.natAbs < 16) : Thg d g 5 m H (.int i) := ⟨.int i, .int i, (Gd.int (k := 4) (by decide) (by decide) h).mono (Nat.le_refl _) (Nat.zero_le _)⟩
theorem Ths.pick {r : Int} (h : Ths d g n m H xs) (h0 : 0 ≤ r) (h1 : r < xs.length) : ∃ y, atI xs r = some y ∧ Thg d g n m H y := by
  obtain ⟨j, rfl⟩ := Int.eq_ofNat_of_zero_le h0
  have hj : j < xs.length := by omega
  exact ⟨xs[j], atI_nat (List.getElem?_eq_getElem hj), h.get (List.getElem?_eq_getElem hj)⟩
theorem Ths.at_ {r : Int} (h : Ths d g n m H xs) (h0 : 0 ≤ r) (h1 : r < xs.length) : ∃ y, atI xs r = some y ∧ Thg d g n m H y := h.pick h0 h1
theorem Thg.bl {b : Bool} : Thg d g n m H (.bl b) := ⟨.bool b, .bl b, by simp [PyData.showable], by simp [PyData.leavesShort], by simp [PyData.weight], by simp [PyData.depth]⟩
theorem Thg.non : Thg d g n m H .non := ⟨.none, .non, by simp [PyData.showable], by simp [PyData.leavesShort], by simp [PyData.weight], by simp [PyData.depth]⟩
theorem Thg.str {z : Str} (h1 : PyData.leavesShort 120 (.str z) = true) (h2 : z.cps.size ≤ n) : Thg d g n m H (.str z) := ⟨.str z, .str z, by simp [PyData.showable], h1, by simpa [PyData.weight] using h2, by simp [PyData.depth]⟩
theorem Thg.dic {p : Addr} (D : Dk d g c k H) (hp : H p = none) : Thg d g n (m + 1) (upd H p (.dK [])) (.ref p) := by
  have np := D.nd hp
  exact ⟨.dict [], .dic (cut_at np.1 np.2.1 upd_same), by simp [PyData.showable, PyData.showableKv], by simp [PyData.leavesShort, PyData.leavesShortKv], by simp [PyData.weight, PyData.weightKv], by simp [PyData.depth, PyData.depthKv]⟩
/-- its type: a tuple of such, or something else -/
theorem Thg.ty (K : PySem.W.Frag) (h : Thg d g n m H x) : ∃ t, TyB1 K H x t ∧ ((isB t "tuple" = true ∧ ∃ a xs, x = .ref a ∧ H a = some (.tup xs) ∧ Ths d g n m H xs) ∨ isB t "tuple" = false) := by
  obtain ⟨dd, h1, h2⟩ := h
  have h1' := h1.same cut_same
  obtain ⟨t, ty, _, et⟩ := h1'.ty (K := K)
  refine ⟨t, ty, ?_⟩
  cases e : isTup dd with
  | false => exact .inr (et.trans e)
  | true =>
    obtain ⟨a, xs, ds, rfl, ha, hds, rfl⟩ := isTup_of h1 e
    exact .inl ⟨et.trans e, a, xs, rfl, cut_same _ _ ha, ds, hds, h2.of_tup⟩
theorem cat_ok {K : PySem.W.Frag} {a b : Addr} {Q : VK} (D : Dk d g c k H) (ha : H a = some (.tup xs)) (hb : H b = some (.tup ys)) (ta : Ths d g n m H xs) (tb : Ths d g n' m H ys) (hl : n + n' ≤ 100000)
    (q : ∀ (p : Addr) (zs : List V) (H' : Hp), Dk d g c k H' → Fr d g H H' → H' p = some (.tup zs) → Ths d g (n + n') m H' zs → Q (.ref p) H') : rCatA K (.ref a) (.ref b) H Q := by
  have l1 := ta.len
  have l2 := tb.len
  have e : sizeLine = 16777216 := by decide
  refine ⟨a, b, xs, ys, rfl, rfl, SqT.of ha, SqT.of hb, by omega, fun z => ?_, fun _ z => ?_, fun _ _ p hp => ?_⟩
  · exact q b ys H D (Fr.refl _ _ _) hb (tb.mono (by omega) (Nat.le_refl _))
  · exact q a xs H D (Fr.refl _ _ _) ha (ta.mono (by omega) (Nat.le_refl _))
  · exact q p _ _ (D.same (same_upd hp)) (.new hp) upd_same ((ta.append tb).fr (.new hp))
theorem sl_ok {K : PySem.W.Frag} {a : Addr} {lo hi : Option Int} {Q : VK} (D : Dk d g c k H) (ha : H a = some (.tup xs)) (ta : Ths d g n m H xs)
    (q : ∀ (p : Addr) (zs : List V) (H' : Hp), Dk d g c k H' → Fr d g H H' → H' p = some (.tup zs) → Ths d g n m H' zs → Q (.ref p) H') : rSlA K (.ref a) lo hi H Q :=
  ⟨a, xs, rfl, SqT.of ha, fun _ => q a xs H D (Fr.refl _ _ _) ha ta, fun _ p hp => q p _ _ (D.same (same_upd hp)) (.new hp) upd_same ((ta.cutV lo hi).fr (.new hp))⟩
end
/-! readings by the module's own objects, told outright (within comprehensions) -/
def rLen (K : PySem.W.Frag) : List V → Hp → VK → Prop := fun xs H Q => ∃ p ys, xs = [.ref p] ∧ (SqL K H p ys ∨ SqT K H p ys) ∧ Q (.int ys.length) H
def rTupOf (K : PySem.W.Frag) : List V → Hp → VK → Prop := fun xs H Q => ∃ p ys, xs = [.ref p] ∧ ((SqL K H p ys ∧ ∀ l, H l = none → Q (.ref l) (upd H l (.tup ys))) ∨ (SqT K H p ys ∧ Q (.ref p) H))
def rListOf (K : PySem.W.Frag) : List V → Hp → VK → Prop := fun xs H Q => ∃ p ys, xs = [.ref p] ∧ (SqL K H p ys ∨ SqT K H p ys) ∧ ∀ l, H l = none → Q (.ref l) (upd H l (.lst ys))
/-! ### rows: tuples of pairs -/
/-- all but tables stays; tables stay tables -/
structure Sm (H H' : Hp) : Prop where
  kp : ∀ a o, (∀ ps, o ≠ HO.tbl ps) → H a = some o → H' a = some o
  tb : ∀ P, GxR.TabG H P → GxR.TabG H' P
theorem Sm.refl (H : Hp) : Sm H H := ⟨fun _ _ _ e => e, fun _ e => e⟩
theorem Sm.trans {H H1 H2 : Hp} (a : Sm H H1) (b : Sm H1 H2) : Sm H H2 := ⟨fun x o n e => b.kp x o n (a.kp x o n e), fun P e => b.tb P (a.tb P e)⟩
theorem Sm.of_same {H H1 : Hp} (s : Same H H1) : Sm H H1 := ⟨fun x o _ e => s x o e, fun _ ⟨ps, e, t⟩ => ⟨ps, s _ _ e, t⟩⟩
theorem Sm.new {H : Hp} {p : Addr} {o : HO} (h : H p = none) : Sm H (upd H p o) := .of_same (same_upd h)
theorem Sm.tabbed {H H1 : Hp} {P : Addr} (g : GxR.TabG H P) (t : GxR.Tabbed P H H1) : Sm H H1 := by
  obtain ⟨t1, t2⟩ := t
  refine ⟨fun x o n e => ?_, fun R ⟨ps, e, tr⟩ => ?_⟩
  · by_cases h : x = P
    · obtain ⟨ps, e2, _⟩ := g
      rw [h, e2] at e
      cases e
      exact absurd rfl (n ps)
    · rw [t2 x h]
      exact e
  · by_cases h : R = P
    · rw [h]
      exact t1
    · exact ⟨ps, by rw [t2 R h]; exact e, tr⟩
theorem Sm.tup {H H1 : Hp} (s : Sm H H1) {a : Addr} {xs : List V} (e : H a = some (.tup xs)) : H1 a = some (.tup xs) := s.kp _ _ (fun _ z => by cases z) e
theorem Sm.lst {H H1 : Hp} (s : Sm H H1) {a : Addr} {xs : List V} (e : H a = some (.lst xs)) : H1 a = some (.lst xs) := s.kp _ _ (fun _ z => by cases z) e
/-- a list that is written while all else stays -/
theorem Sm.put {H H1 : Hp} {L : Addr} {o : HO} (s : Sm H H1) (h : H L = none) : Sm H (upd H1 L o) := by
  refine ⟨fun x u n e => ?_, fun R ⟨ps, e, t⟩ => ?_⟩
  · rw [upd_ne (ne_of_none e h)]
    exact s.kp _ _ n e
  · obtain ⟨qs, e2, t2⟩ := s.tb R ⟨ps, e, t⟩
    exact ⟨qs, by rw [upd_ne (ne_of_none e h)]; exact e2, t2⟩
abbrev Row := List (Int × Int)
def Pr (H : Hp) (x : V) (u : Int × Int) : Prop := ∃ a, x = .ref a ∧ H a = some (.tup [.int u.1, .int u.2])
structure Prs (H : Hp) (xs : List V) (r : Row) : Prop where
  len : xs.length = r.length
  get : ∀ {i : Nat} {x : V}, xs[i]? = some x → ∃ u, r[i]? = some u ∧ Pr H x u
def Rw (H : Hp) (t : Addr) (r : Row) : Prop := ∃ xs, H t = some (.tup xs) ∧ Prs H xs r
theorem Pr.sm {H H1 : Hp} {x : V} {u : Int × Int} (h : Pr H x u) (s : Sm H H1) : Pr H1 x u := let ⟨a, e, h⟩ := h; ⟨a, e, s.tup h⟩
theorem Prs.sm {H H1 : Hp} {xs : List V} {r : Row} (h : Prs H xs r) (s : Sm H H1) : Prs H1 xs r := ⟨h.len, fun e => let ⟨u, e2, p⟩ := h.get e; ⟨u, e2, p.sm s⟩⟩
theorem Rw.sm {H H1 : Hp} {t : Addr} {r : Row} (h : Rw H t r) (s : Sm H H1) : Rw H1 t r := let ⟨xs, e, p⟩ := h; ⟨xs, s.tup e, p.sm s⟩
theorem Prs.nil {H : Hp} : Prs H [] [] := ⟨rfl, fun {i x} e => by simp at e⟩
theorem Prs.snoc {H : Hp} {xs : List V} {r : Row} {x : V} {u : Int × Int} (h : Prs H xs r) (p : Pr H x u) : Prs H (xs ++ [x]) (r ++ [u]) := by
  refine ⟨by simp [h.len], fun {i y} e => ?_⟩
  by_cases hi : i < xs.length
  · rw [List.getElem?_append_left hi] at e
    rw [List.getElem?_append_left (by rw [← h.len]; exact hi)]
    exact h.get e
  · rw [List.getElem?_append_right (by omega)] at e
    rw [List.getElem?_append_right (by rw [← h.len]; omega), ← h.len]
    cases hk : i - xs.length with
    | zero =>
      rw [hk] at e
      cases e
      exact ⟨u, rfl, p⟩
    | succ m =>
      rw [hk] at e
      simp at e
theorem take_snoc {α : Type} {xs : List α} {i : Nat} {u : α} (e : xs[i]? = some u) : xs.take (i + 1) = xs.take i ++ [u] := by
  rw [List.take_add_one, e]
  rfl
/-! walks -/
section
variable {K : PySem.W.Frag} {a b : Addr} {xs ys : List V} {g : TG} {tt : TT} {te : TE} {vs : List Nat} {σ : L2.St} {Hs : Hp}
theorem gx_tup {Q : List V → Hp → Prop} (Pv : Nat → List V → Hp → Prop) (h0 : Pv 0 [] Hs) (hl : ∀ i zs H, i ≤ xs.length → Pv i zs H → SqT K H a xs)
    (hs : ∀ i x zs H, xs[i]? = some x → Pv i zs H → g x (wipe σ vs) H fun σ2 H2 => wipe σ2 vs = wipe σ vs ∧ te σ2 H2 fun y H3 => zs.length < sizeLine ∧ Pv (i + 1) (zs ++ [y]) H3) (hd : ∀ zs H, Pv xs.length zs H → Q zs H) :
    ∃ W : Nat → Nat → List V → Hp → Prop, (∃ m, W 0 m [] Hs) ∧ Gx.Turns (Itt K a) g te vs σ Q W := by
  refine ⟨fun i m zs H => m = xs.length - i ∧ i ≤ xs.length ∧ Pv i zs H, ⟨xs.length, by simp, Nat.zero_le _, h0⟩, ?_⟩
  rintro i m zs H ⟨rfl, hi, p⟩
  have q := hl i zs H hi p
  by_cases hlt : i < xs.length
  · refine .inr ⟨⟨xs, xs[i], q, by simp [hlt]⟩, Pv (i + 1), fun zs H' p' => ⟨xs.length - (i + 1), by omega, rfl, hlt, p'⟩, fun x H' y => ?_⟩
    obtain ⟨e, y⟩ := y
    subst e
    exact hs i x zs _ (y xs q) p
  · have e : i = xs.length := by omega
    subst e
    exact .inl ⟨⟨xs, q, Nat.le_refl _⟩, hd zs H p⟩
theorem gx_zip {Q : List V → Hp → Prop} (hle : xs.length = ys.length) (Pv : Nat → List V → Hp → Prop) (h0 : Pv 0 [] Hs) (hl : ∀ i zs H, Pv i zs H → SqT K H a xs ∧ SqT K H b ys)
    (hs : ∀ i x y T zs H, xs[i]? = some x → ys[i]? = some y → Pv i zs H → H T = none → g (.ref T) (wipe σ vs) (upd H T (.tup [x, y])) fun σ2 H2 => wipe σ2 vs = wipe σ vs ∧ te σ2 H2 fun y H3 => zs.length < sizeLine ∧ Pv (i + 1) (zs ++ [y]) H3) (hd : ∀ zs H, Pv xs.length zs H → Q zs H) :
    ∃ W : Nat → Nat → List V → Hp → Prop, (∃ m, W 0 m [] Hs) ∧ Gx.Turns (RZ.ItzT K a b) g te vs σ Q W := by
  refine ⟨fun i m zs H => m = xs.length - i ∧ i ≤ xs.length ∧ Pv i zs H, ⟨xs.length, by simp, Nat.zero_le _, h0⟩, ?_⟩
  rintro i m zs H ⟨rfl, hi, p⟩
  obtain ⟨qx, qy⟩ := hl i zs H p
  by_cases hlt : i < xs.length
  · have hx : xs[i]? = some xs[i] := List.getElem?_eq_getElem hlt
    have hlt2 : i < ys.length := by omega
    have hy : ys[i]? = some ys[i] := List.getElem?_eq_getElem hlt2
    refine .inr ⟨⟨xs, ys, _, _, qx, qy, hx, hy⟩, Pv (i + 1), fun zs H' p' => ⟨xs.length - (i + 1), by omega, rfl, hlt, p'⟩, fun v H' y => ?_⟩
    obtain ⟨T, x', y', rfl, hT, rfl, f1, f2⟩ := y
    exact hs i x' y' T zs H (f1 xs qx) (f2 ys qy) p hT
  · have e : i = xs.length := by omega
    subst e
    exact .inl ⟨⟨xs, ys, qx, qy, Or.inl (Nat.le_refl _)⟩, hd zs H p⟩
theorem lc_zip {D : Addr} {Qd : Hp → Prop} (hle : xs.length = ys.length) (Pv : Nat → Hp → Prop) (h0 : Pv 0 (upd Hs D (.lst []))) (hl : ∀ i H, Pv i H → SqT K H a xs ∧ SqT K H b ys)
    (hs : ∀ i x y T H, xs[i]? = some x → ys[i]? = some y → Pv i H → H T = none → g (.ref T) (wipe σ vs) (upd H T (.tup [x, y])) fun σ2 H2 => wipe σ2 vs = wipe σ vs ∧ tt σ2 H2 fun b H3 =>
      if b = true then te σ2 H3 fun y H4 => ∃ acc, H4 D = some (.lst acc) ∧ acc.length < sizeLine ∧ Pv (i + 1) (upd H4 D (.lst (acc ++ [y]))) else Pv (i + 1) H3) (hd : ∀ H, Pv xs.length H → Qd H) :
    ∃ W : Nat → Nat → Hp → Prop, (∃ m, W 0 m (upd Hs D (.lst []))) ∧ ∀ i m H, W i m H →
      ((RZ.ItzT K a b).stop i H ∧ Qd H) ∨ ((RZ.ItzT K a b).go i H ∧ ∃ Nx : Hp → Prop, (∀ H', Nx H' → ∃ m', m' < m ∧ W (i + 1) m' H') ∧ ∀ x H', (RZ.ItzT K a b).yld i H x H' → g x (wipe σ vs) H' fun σ2 H2 => wipe σ2 vs = wipe σ vs ∧ tt σ2 H2 fun b H3 =>
        if b = true then te σ2 H3 fun y H4 => ∃ acc, H4 D = some (.lst acc) ∧ acc.length < sizeLine ∧ Nx (upd H4 D (.lst (acc ++ [y]))) else Nx H3) := by
  refine ⟨fun i m H => m = xs.length - i ∧ i ≤ xs.length ∧ Pv i H, ⟨xs.length, by simp, Nat.zero_le _, h0⟩, ?_⟩
  rintro i m H ⟨rfl, hi, p⟩
  obtain ⟨qx, qy⟩ := hl i H p
  by_cases hlt : i < xs.length
  · have hx : xs[i]? = some xs[i] := List.getElem?_eq_getElem hlt
    have hlt2 : i < ys.length := by omega
    have hy : ys[i]? = some ys[i] := List.getElem?_eq_getElem hlt2
    refine .inr ⟨⟨xs, ys, _, _, qx, qy, hx, hy⟩, Pv (i + 1), fun H' p' => ⟨xs.length - (i + 1), by omega, rfl, hlt, p'⟩, fun v H' y => ?_⟩
    obtain ⟨T, x', y', rfl, hT, rfl, f1, f2⟩ := y
    exact hs i x' y' T H (f1 xs qx) (f2 ys qy) p hT
  · have e : i = xs.length := by omega
    subst e
    exact .inl ⟨⟨xs, ys, qx, qy, Or.inl (Nat.le_refl _)⟩, hd H p⟩
end
/-! a def whose code object is known -/
structure FunC (K : PySem.W.Frag) (x qual : Str) (st : Stmt) (f : Addr) (fd : FuncData) (c : Addr) : Prop where
  ex : ∃ (oc : Value) (od : Option Addr) (kV doc pm : Value) (an : Option Addr) (ct : Value) (osl : Array (Option Value)),
    fd = PySem.W.fnOf x qual (defArgs st) (defBody st) (defScope st) .none kV doc pm an (.ref c) ct ∧ K.lookup f = some ⟨oc, od, .func fd, osl⟩ ∧ PySem.W.codeIn K (.ref c) qual = true
open PySem.Spec PyProof.Rows in
theorem FunC.ok {P : Program} {w : World} {K : PySem.W.Frag} {mg : Str → Option Value} {base : Heap} {x qual : Str} {st : Stmt} {f c : Addr} {fd : FuncData} {N ps : List Str} {k : Nat} {sp : Sp} (F : FunC K x qual st f fd c) (S : FnScope N ps (defScope st)) (len : ∀ vs H Q E, sp vs H Q E → vs.length = ps.length)
    (hbody : ∀ (A : Around) (outer : List Env) (s : Shared) (H : Hp) (vs : List V) (Q : VK) (E : XK), Room k (A.deeper (envOfC qual (defScope st) s.heap.objs.size f (.ref c))) → sp vs H Q E →
      ∃ t, PSs (cxOf CX0 P w K mg base N qual (defScope st) f (.ref c) A outer s H E).nox (defBody st) t ∧ t { nx := fun _ H' => Q .non H', rt := Q } (start N vs) H) : FnOk P w K mg base CX0 (k + 1) f fd ps sp := by
  obtain ⟨oc, od, kV, doc, pm, an, ct, osl, rfl, lk, hcd⟩ := F.ex
  refine fn_of lk hcd S len fun A outer s H vs Q E hr hsp => ?_
  obtain ⟨t, h, q⟩ := hbody A outer s H vs Q E hr hsp
  exact ⟨t, h.nox, q⟩
/-! what is reckoned -/
def addR (p : Int) (r s : Row) : Row := List.zipWith (fun u v => ((u.1 + v.1) % p, (u.2 + v.2) % p)) r s
def timR (p n : Int) (r : Row) : Row := r.map fun u => (n * u.1 % p, n * u.2 % p)
def mets (r s : Row) : List Int := List.zipWith (fun u v => u.1 * v.2 - v.1 * u.2) r s
def metR (p : Int) (r s : Row) : Int := (mets r s).sum % p
def parR (r : Row) (js : List Nat) : Row := js.map fun j => r.getD j (0, 0)
def noR (n : Nat) : Row := List.replicate n (0, 0)
/-- a row of numbers that are no greater than we reckon with -/
def Fit (r : Row) : Prop := r.length ≤ 20 ∧ ∀ u ∈ r, (0 ≤ u.1 ∧ u.1 < 13) ∧ 0 ≤ u.2 ∧ u.2 < 13
theorem Fit.get {r : Row} (h : Fit r) {i : Nat} {u : Int × Int} (e : r[i]? = some u) : (0 ≤ u.1 ∧ u.1 < 13) ∧ 0 ≤ u.2 ∧ u.2 < 13 := h.2 u (List.mem_of_getElem? e)
theorem cmul {a b : Int} (h : 0 ≤ a ∧ a < 13) : CMul a b := .inl ⟨by omega, by omega⟩
theorem small {n : Nat} (h : n ≤ 1000) : n < sizeLine := small1000 h
structure Cd where
  c_added : Addr
  p_added : Addr
  c_times : Addr
  p_times : Addr
  c_row_of : Addr
  p_row_of : Addr
  c_row_of_sides : Addr
  p_row_of_sides : Addr
  c_table_of : Addr
  p_table_of : Addr
  c_stepped : Addr
  p_stepped : Addr
  c_units : Addr
  p_units : Addr
  c_moved : Addr
  p_moved : Addr
structure Tb (K : PySem.W.Frag) (mg : Str → Option Value) (base : Heap) (A : Ad) (C : Cd) : Prop where
  t_added : GxR.TabB base mg C.c_added C.p_added
  k_added : FunC K "added" "added" s_added A.f_added A.d_added C.c_added
  t_times : GxR.TabB base mg C.c_times C.p_times
  k_times : FunC K "times" "times" s_times A.f_times A.d_times C.c_times
  t_row_of : GxR.TabB base mg C.c_row_of C.p_row_of
  k_row_of : FunC K "row_of" "row_of" s_row_of A.f_row_of A.d_row_of C.c_row_of
  t_row_of_sides : GxR.TabB base mg C.c_row_of_sides C.p_row_of_sides
  k_row_of_sides : FunC K "row_of_sides" "row_of_sides" s_row_of_sides A.f_row_of_sides A.d_row_of_sides C.c_row_of_sides
  t_table_of : GxR.TabB base mg C.c_table_of C.p_table_of
  k_table_of : FunC K "table_of" "table_of" s_table_of A.f_table_of A.d_table_of C.c_table_of
  t_stepped : GxR.TabB base mg C.c_stepped C.p_stepped
  k_stepped : FunC K "stepped" "stepped" s_stepped A.f_stepped A.d_stepped C.c_stepped
  t_units : GxR.TabB base mg C.c_units C.p_units
  k_units : FunC K "units" "units" s_units A.f_units A.d_units C.c_units
  t_moved : GxR.TabB base mg C.c_moved C.p_moved
  k_moved : FunC K "moved" "moved" s_moved A.f_moved A.d_moved C.c_moved
/-! ### the end of a law with tables -/
open PySem.Spec PyProof.Rows in
def OwnTabs (names : List Str) (mg : Str → Option Value) (h : Heap) : Prop := ∀ x ∈ names, ∃ (a : Addr) (o : Obj) (fd : FuncData) (c P : Addr), mg x = some (.ref a) ∧ h.get? a = some o ∧ o.data = .func fd ∧ fd.code = .ref c ∧ PySem.W.CodeHd h c P ∧ h.get? P = some { cls := .none, data := .fields #[] }
open PySem.Spec PyProof.Rows in
theorem own_at {names : List Str} {mg : Str → Option Value} {h : Heap} {K : PySem.W.Frag} {x : Str} {f q p : Addr} {oc e : Value} {od dd : Option Addr} {fd : FuncData} {sl us : Array (Option Value)} {vs : Array Value} (own : OwnTabs names mg h) (hx : x ∈ names) (X : K.In h) (m : mg x = some (.ref f))
    (l : K.lookup f = some ⟨oc, od, .func fd, sl⟩) (hc : fd.code = .ref q) (u : K.lookup q = some ⟨e, dd, .fields vs, us⟩) (g : vs[11]? = some (.ref p)) : PySem.W.CodeHd h q p ∧ h.get? p = some { cls := .none, data := .fields #[] } := by
  obtain ⟨a, o, fd', c, P, h1, h2, h3, h4, h5, h6⟩ := own x hx
  rw [m] at h1
  cases h1
  rw [X _ _ l] at h2
  cases h2
  cases h3
  rw [hc] at h4
  cases h4
  have h5' := h5
  obtain ⟨o, vs', file, tf, flags, tg, inF, text, tt, e1, r1, r2, r3, _⟩ := h5
  rw [X _ _ u] at e1
  cases e1
  cases r2
  rw [g] at r3
  cases r3
  exact ⟨h5', h6⟩
theorem tb_conv {base : Heap} {mg : Str → Option Value} {c P : Addr} (t : LamX.TabB base mg c P) : GxR.TabB base mg c P := ⟨t.code, t.bm, t.gP⟩
theorem tab0 {H : Hp} {P : Addr} (h : H P = some (.tbl #[])) : GxR.TabG H P := ⟨#[], h, trivial⟩
open PySem.Spec PyProof.Rows in
theorem walkT {l : PySem.W.OpenLaw} {k : Nat} {x : Str} {q : Program} {loose : List Str} {XP : (Str → Option Value) → Heap → Prop} {YP : World → Heap → Prop} {d : DefRec} {K : Params → PySem.W.Frag} (names : List Str) (hn : l.most = some 63) (hdf : d.params.defaults = []) (hr : Room k callerA)
    (hrec : (names.all fun y => (recsOf q).any fun e => e.name == y) = true) (hY : ∀ (w : World) (h : Heap), YP w h → (K w.params).In h)
    (F : ∀ (w : World) (mg : Str → Option Value) (fa : Addr) (h : Heap), (K w.params).In h → h.Ns mainGlobals mg → mg d.name = some (.ref fa) → OwnTabs names mg h → LamX.LawAtS l w (K w.params) CX0 k 63 x mg fa h) :
    PySem.W.WalkO q loose XP YP l.row.toRowW d [] (fun f vs => PySem.call f vs) := by
  refine Att.attach_callB hn hdf fun w s₀ s₁ mg mb fa o pm cd doc a vs ns G Y ho hd hcd hmg hobj hints hlen hbits hg => ?_
  have KX := hY w _ Y
  have own : OwnTabs names mg s₁.heap := fun y hy => by
    obtain ⟨dL, hm, hn1⟩ := List.any_eq_true.mp (List.all_eq_true.mp hrec y hy)
    have hn2 : dL.name = y := beq_iff_eq.mp hn1
    obtain ⟨a', o', fd', c', P', h1, h2, h3, h4, h5, h6⟩ := G.T.tab dL hm
    rw [hn2] at h1
    exact ⟨a', o', fd', c', P', h1, h2, h3, h4, PySem.W.CodeHd.of h5 h6, h6.2⟩
  obtain ⟨fd, cs, sp, hT, nT, C, hb, hsp, hF⟩ := F w mg fa _ KX G.T.g hmg own
  exact LamX.law_callTs KX G.T.g G.T.b G.T.builtins G.T.nolimit hg hT nT C G.T.bmain hobj hints (Nat.le_trans hlen (by decide)) hr hF hb (fun H hH hS => hsp H a ns hlen hbits hH hS) fun H e s' z => z
/-! ### the law's end with guards and with tables -/
open PySem.Spec PyProof.Rows in
theorem core_endT {P : Program} {w : World} {K : PySem.W.Frag} {mg mb : Str → Option Value} {fa a : Addr} {t : Shared} {vs : List Value} {H : Hp} (cs : List (Addr × Addr))
    (kin : K.In t.heap) (hm : t.heap.Ns mainGlobals mg) (hb : t.heap.Ns builtinsNs mb) (boot : ∀ x : Str, x ≠ "__name__" → mb x = bootBuiltins x)
    (nol : t.heap.NoLimit) (hg : t.gens = #[]) (ha : t.heap.get? a = some { cls := .type "list", data := .seq vs.toArray })
    (hbm : ∃ (bm : Addr) (ob : Obj), mg "__builtins__" = some (.ref bm) ∧ bm ≠ builtinsNs ∧ t.heap.get? bm = some ob ∧ ob.cls = .type "module" ∧ ob.dict = some builtinsNs ∧ ob.data = .plain)
    (tabs : ∀ p ∈ cs, t.heap.get? p.2 = some { cls := .none, data := .fields #[] }) (hC : ∀ p ∈ cs, PySem.W.CodeHd t.heap p.1 p.2) (nT : ∀ p ∈ cs, K.lookup p.2 = none) (hT : ∀ p ∈ cs, H p.2 = some (.tbl #[]))
    (only : ∀ b, H b = none ∨ (∃ ob xs, H b = some (.frz ob (.lst xs))) ∨ ∃ p ∈ cs, p.2 = b) (hok : HOk P w H t.heap) (atA : ∀ b o, H b = some o → b = a ∨ ∃ p ∈ cs, p.2 = b) (notK : ∀ o, H a = some o → K.lookup a = none)
    (R : ∀ base : Heap, (∀ b o, t.heap.get? b = some o → H b = none → base.get? b = some o) → (∀ p ∈ cs, GxR.TabB base mg p.1 p.2) → Env0 P w K mg base callerA [] t H →
      codeAny (model P w) callerA (.call (.ref fa) ⟨[.ref a], []⟩) (CR CX0 [] P w H t (fun v _ => v = .bl true) E0) t) :
    codeAny (model P w) callerA (.call (.ref fa) ⟨[.ref a], []⟩)
      (fun r u => r = .ok (.ret (.bool true)) ∧ PySem.OldK t.heap u.heap ∧ u.os = t.os ∧ AllBare u.gens) t := by
  have hid : ∀ {b o}, t.heap.get? b = some o → H b = none → (hidT t.heap H).get? b = some o := fun z n => hidT_get z n
  have free : ∀ {b : Addr} {o : Obj}, t.heap.get? b = some o → (∀ us n, o.data ≠ .seq us n) → o.data ≠ .fields #[] → H b = none := by
    intro b o z h1 h2
    cases q : H b with
    | none => rfl
    | some u =>
      rcases atA b u q with e | ⟨p, hp, e⟩
      · subst e
        rw [ha] at z
        cases z
        exact absurd rfl (h1 _ _)
      · subst e
        rw [tabs p hp] at z
        cases z
        exact absurd rfl h2
  have names : ∀ {b : Addr} {m : Str → Option Value}, t.heap.Ns b m → (hidT t.heap H).Ns b m := by
    rintro b m ⟨o, es, ep, z, d, r⟩
    refine ⟨o, es, ep, hid z (free z (fun us n e => ?_) fun e => ?_), d, r⟩
    · rw [d] at e
      cases e
    · rw [d] at e
      cases e
  have kinB : K.In (hidT t.heap H) := by
    intro b o z
    refine hid (kin b o z) ?_
    cases q : H b with
    | none => rfl
    | some u =>
      rcases atA b u q with e | ⟨p, hp, e⟩
      · subst e
        rw [notK u q] at z
        cases z
      · subst e
        rw [nT p hp] at z
        cases z
  obtain ⟨mc, n1, n2⟩ := nol
  have md : Mod K mg (hidT t.heap H) := ⟨kinB, names hm, ⟨mb, names hb, boot⟩, ⟨mc, names n1, n2⟩⟩
  have e0 : Env0 P w K mg (hidT t.heap H) callerA [] t H := by
    refine ⟨rfl, md, fun b o z => of_hidT z, Nat.le_of_eq (hidT_size _ _), trivial, fun b z => ?_, hok, .of_eq hg⟩
    exact (List.not_mem_nil (show b ∈ ([] : List Addr) from z)).elim
  have TB : ∀ p ∈ cs, GxR.TabB (hidT t.heap H) mg p.1 p.2 := by
    intro p hp
    have hTp := tabs p hp
    obtain ⟨mo, me, mp, mz, mdat, _⟩ := hm
    refine ⟨?_, ?_, fun z => ?_⟩
    · obtain ⟨o, us, file, tf, flags, tg, inF, text, tt, e1, r1, r2, r3, rest⟩ := hC p hp
      refine ⟨o, us, file, tf, flags, tg, inF, text, tt, hid e1 (free e1 (fun us n z => ?_) fun z => ?_), r1, r2, r3, rest⟩
      · rw [r2] at z
        cases z
      · rw [r2] at z
        cases z
        simp at r3
    · obtain ⟨bm, ob, b1, b2, b3, b4, b5, b6⟩ := hbm
      refine ⟨bm, ob, b1, b2, fun q => ?_, fun q => ?_, hid b3 (free b3 (fun us n z => ?_) fun z => ?_), b4, b5, b6⟩
      · rw [q, mz] at b3
        cases b3
        rw [mdat] at b6
        cases b6
      · rw [q, hTp] at b3
        cases b3
        cases b6
      · rw [b6] at z
        cases z
      · rw [b6] at z
        cases z
    · rw [z, hTp] at mz
      cases mz
      cases mdat
  refine codeAny_mono (R _ (fun b o z n => hid z n) TB e0) fun r u h => ?_
  match r, h with
  | .ok (.ret y), ⟨v, H', hos, bare, un, hok', rel, e⟩ =>
    have e2 : v = V.bl true := e
    subst e2
    cases (show y = Value.bool true from rel)
    have grown : ∀ p ∈ cs, ∃ more : Array Value, u.heap.get? p.2 = some { cls := .none, data := .fields more } := fun p hp => by
      obtain ⟨more, z⟩ := un.tbls p.2 #[] (hT p hp)
      exact ⟨_, hok' p.2 _ z⟩
    have key : ∀ b o, t.heap.get? b = some o → u.heap.get? b = some o ∨ ∃ p ∈ cs, p.2 = b := by
      intro b o z
      rcases only b with n | ⟨ob, xs, n⟩ | n
      · exact .inl (un.keep b o z n (fun y => (List.not_mem_nil (show b ∈ ([] : List Addr) from y)).elim) (by simp))
      · obtain ⟨g1, _⟩ := hok b _ n
        obtain ⟨g2, _⟩ := hok' b _ (un.frzs b ob _ n)
        rw [g1] at z
        cases z
        exact .inl g2
      · exact .inr n
    refine ⟨rfl, ⟨fun b o z => ?_, fun b o z => ?_⟩, hos, bare⟩
    · rcases key b o z with k | ⟨p, hp, e⟩
      · exact .inl k
      · subst e
        obtain ⟨more, hmo⟩ := grown p hp
        rw [tabs p hp] at z
        cases z
        exact .inr (.inl ⟨((hC p hp).tab (tabs p hp)).isCodeTable, rfl, #[], more, rfl, by rw [Array.empty_append]; exact hmo⟩)
    · rcases key b o z with k | ⟨p, hp, e⟩
      · exact ⟨o, k⟩
      · subst e
        obtain ⟨more, hmo⟩ := grown p hp
        exact ⟨_, hmo⟩
  | .ok .next, h => exact False.elim h
  | .ok .brk, h => exact False.elim h
  | .ok .cont, h => exact False.elim h
  | .error _, h => exact False.elim h
open PySem.Spec PyProof.Rows in
/-- the law's call, over every script of at most 63 numbers, gives True; cs: code objects and tables -/
def LawOkT (P : Program) (w : World) (K : PySem.W.Frag) (mg : Str → Option Value) (fa : Addr) (cs : List (Addr × Addr)) : Prop :=
  ∀ (base : Heap) (t : Shared) (H : Hp) (a : Addr) (ns : List Int), ns.length ≤ 63 → (∃ o, base.get? sysModules = some o) → Env0 P w K mg base callerA [] t H → (∀ p ∈ cs, GxR.TabB base mg p.1 p.2) → (∀ p ∈ cs, H p.2 = some (.tbl #[])) → SqL K H a (ns.map V.int) →
    codeAny (model P w) callerA (.call (.ref fa) ⟨[.ref a], []⟩) (CR CX0 [] P w H t (fun v _ => v = .bl true) E0) t
open PySem.Spec PyProof.Rows in
theorem walk_gT {l : PySem.W.OpenLaw} {q : Program} {loose : List Str} {XP : (Str → Option Value) → Heap → Prop} {YP : World → Heap → Prop} {d : DefRec} {K : Params → PySem.W.Frag} (nms : List Str)
    (hn : l.most = some 63) (hdf : d.params.defaults = []) (hi : importsNone q = true) (hrec : (nms.all fun y => (recsOf q).any fun e => e.name == y) = true) (hY : ∀ (w : World) (h : Heap), YP w h → (K w.params).In h)
    (F : ∀ (w : World) (mg : Str → Option Value) (fa : Addr) (h : Heap), (K w.params).In h → h.Ns mainGlobals mg → mg d.name = some (.ref fa) → OwnTabs nms mg h → ∃ cs : List (Addr × Addr), (∀ p ∈ cs, h.get? p.2 = some { cls := .none, data := .fields #[] }) ∧ (∀ p ∈ cs, (K w.params).lookup p.2 = none) ∧
      (∀ p ∈ cs, PySem.W.CodeHd h p.1 p.2) ∧ LawOkT l.prog w (K w.params) mg fa cs) :
    PySem.W.WalkO q loose XP YP l.row.toRowW d [] (fun f vs => PySem.call f vs) := by
  refine Att.attach_call hn hdf fun w s₀ t mg mb fa o pm cd doc a vs ns G Y ho hd hcd hmg hobj hints hlen hg => ?_
  have kin := hY w _ Y
  have own : OwnTabs nms mg t.heap := fun y hy => by
    obtain ⟨dL, hm, hn1⟩ := List.any_eq_true.mp (List.all_eq_true.mp hrec y hy)
    have hn2 : dL.name = y := beq_iff_eq.mp hn1
    obtain ⟨a', o', fd', c', P', h1, h2, h3, h4, h5, h6⟩ := G.T.tab dL hm
    rw [hn2] at h1
    exact ⟨a', o', fd', c', P', h1, h2, h3, h4, PySem.W.CodeHd.of h5 h6, h6.2⟩
  obtain ⟨cs, tabs, nT, hC, L⟩ := F w mg fa _ kin G.T.g hmg own
  have rv := vals_ints hints
  have small : ns.length ≤ sizeLine := Nat.le_trans hlen (by decide)
  obtain ⟨mm, ⟨os, es, ep, hos, hod, _⟩, _⟩ := (G.T.seer hi).mods
  have neT : ∀ p ∈ cs, p.2 ≠ a := fun p hp z => by
    have e := tabs p hp
    rw [z, hobj] at e
    have e' := congrArg Obj.data (Option.some.inj e)
    cases e'
  have neS : ∀ p ∈ cs, p.2 ≠ sysModules := fun p hp z => by
    have e := tabs p hp
    rw [z, hos] at e
    cases e
    cases hod
  have mem : ∀ {b}, b ∈ cs.map (·.2) → ∃ p ∈ cs, p.2 = b := fun h => List.mem_map.mp h
  have inn : ∀ p ∈ cs, p.2 ∈ cs.map (·.2) := fun p hp => List.mem_map.mpr ⟨p, hp, rfl⟩
  cases hk : (K w.params).lookup a with
  | some u =>
    have z := kin a u hk
    rw [hobj] at z
    cases z
    refine core_endT cs (H := fun b => if b ∈ cs.map (·.2) then some (.tbl #[]) else none) kin G.T.g G.T.b G.T.builtins G.T.nolimit hg hobj G.T.bmain tabs hC nT (fun p hp => if_pos (inn p hp)) (fun b => ?_) (fun b u z => ?_) (fun b o z => ?_) (fun o z => ?_) fun base up TB e0 => ?_
    · by_cases h : b ∈ cs.map (·.2)
      · exact .inr (.inr (mem h))
      · exact .inl (if_neg h)
    · by_cases h : b ∈ cs.map (·.2)
      · cases (if_pos h).symm.trans z
        obtain ⟨p, hp, rfl⟩ := mem h
        exact tabs p hp
      · cases (if_neg h).symm.trans z
    · by_cases h : b ∈ cs.map (·.2)
      · exact .inr (mem h)
      · cases (if_neg h).symm.trans z
    · by_cases h : a ∈ cs.map (·.2)
      · obtain ⟨p, hp, e⟩ := mem h
        exact absurd e (neT p hp)
      · cases (if_neg h).symm.trans z
    · refine L base t _ a ns hlen ⟨_, up _ _ hos (if_neg fun h => ?_)⟩ e0 TB (fun p hp => if_pos (inn p hp)) (.inr ⟨_, vs.toArray, _, hk, rfl, rfl, rfl, by rw [List.size_toArray, hints.length]; exact small, by simpa using rv⟩)
      obtain ⟨p, hp, e⟩ := mem h
      exact neS p hp e
  | none =>
    refine core_endT cs (H := fun b => if b = a then some (.frz { cls := .type "list", data := .seq vs.toArray } (.lst (ns.map V.int))) else if b ∈ cs.map (·.2) then some (.tbl #[]) else none) kin G.T.g G.T.b G.T.builtins G.T.nolimit hg hobj G.T.bmain tabs hC nT (fun p hp => (if_neg (neT p hp)).trans (if_pos (inn p hp))) (fun b => ?_) (fun b u z => ?_) (fun b o z => ?_) (fun _ _ => hk) fun base up TB e0 => ?_
    · by_cases e : b = a
      · exact .inr (.inl ⟨_, _, if_pos e⟩)
      · by_cases h : b ∈ cs.map (·.2)
        · exact .inr (.inr (mem h))
        · exact .inl ((if_neg e).trans (if_neg h))
    · by_cases e : b = a
      · cases (if_pos e).symm.trans z
        subst e
        exact ⟨hobj, by rw [List.length_map]; exact small, vs, _, rv, hobj⟩
      · have z1 := (if_neg e).symm.trans z
        by_cases h : b ∈ cs.map (·.2)
        · cases (if_pos h).symm.trans z1
          obtain ⟨p, hp, rfl⟩ := mem h
          exact tabs p hp
        · cases (if_neg h).symm.trans z1
    · by_cases e : b = a
      · exact .inl e
      · have z1 := (if_neg e).symm.trans z
        by_cases h : b ∈ cs.map (·.2)
        · exact .inr (mem h)
        · cases (if_neg h).symm.trans z1
    · have ne : sysModules ≠ a := fun z => by
        rw [z, hobj] at hos
        cases hos
        cases hod
      have ne2 : ¬ sysModules ∈ cs.map (·.2) := fun h => by
        obtain ⟨p, hp, e⟩ := mem h
        exact neS p hp e
      have h1 := L base t _ a ns hlen ⟨_, up _ _ hos ((if_neg ne).trans (if_neg ne2))⟩ e0 TB (fun p hp => (if_neg (neT p hp)).trans (if_pos (inn p hp)))
      exact h1 (.inl (.inr ⟨_, if_pos rfl⟩))
open PySem.Spec PyProof.Rows in
theorem law_atT {P : Program} {w : World} {K : PySem.W.Frag} {mg : Str → Option Value} {st : Stmt} {f : Addr} {fd : FuncData} {N : List Str} {p : Str} {k : Nat} {cs : List (Addr × Addr)}
    (D : Df K mg "law" st [p] f fd) (S : FnScope N [p] (defScope st)) (room : Room (k + 1) callerA)
    (body : ∀ (base : Heap) (t : Shared) (H : Hp) (a : Addr) (ns : List Int) (cdv : Value), ns.length ≤ 63 → (∃ o, base.get? sysModules = some o) → (∀ p ∈ cs, GxR.TabB base mg p.1 p.2) → (∀ p ∈ cs, H p.2 = some (.tbl #[])) → SqL K H a (ns.map V.int) →
      Room k (callerA.deeper (envOfC "law" (defScope st) t.heap.objs.size f cdv)) →
      ∃ tm, PSs (cxOf CX0 P w K mg base N "law" (defScope st) f cdv callerA [] t H E0).nox (defBody st) tm ∧
        tm { nx := fun _ _ => V.non = .bl true, rt := fun v _ => v = .bl true } (start N [.ref a]) H) : LawOkT P w K mg f cs := by
  intro base t H a ns hl hm e0 TB hH hS
  have kin : K.In t.heap := e0.mod.kin.keeps fun b o z => (e0.bs b o z).1
  exact at_call (vs := [.ref a]) D.F S rfl room e0 (D.b t [.ref a] kin rfl) (.cons rfl .nil) fun cdv hr => body base t H a ns cdv hl hm TB hH hS hr
/-! a generator expression over a walk -/
theorem gx_it {J : It} {n : Nat} {G : Hp → Prop} {Y : Nat → Hp → V → Hp → Prop} (w : Walk J n G Y) {g : TG} {te : TE} {vs : List Nat} {σ : L2.St} {Hs : Hp} {Q : List V → Hp → Prop} (Pv : Nat → List V → Hp → Prop) (h0 : Pv 0 [] Hs) (hG : ∀ i zs H, i ≤ n → Pv i zs H → G H)
    (hs : ∀ i x zs H H', i < n → Pv i zs H → Y i H x H' → g x (wipe σ vs) H' fun σ2 H2 => wipe σ2 vs = wipe σ vs ∧ te σ2 H2 fun y H3 => zs.length < sizeLine ∧ Pv (i + 1) (zs ++ [y]) H3) (hd : ∀ zs H, Pv n zs H → Q zs H) :
    ∃ W : Nat → Nat → List V → Hp → Prop, (∃ m, W 0 m [] Hs) ∧ Gx.Turns J g te vs σ Q W := by
  refine ⟨fun i m zs H => m + i = n ∧ Pv i zs H, ⟨n, rfl, h0⟩, ?_⟩
  rintro i m zs H ⟨e, p⟩
  have q := hG i zs H (by omega) p
  cases m with
  | zero =>
    have e' : i = n := by omega
    subst e'
    exact .inl ⟨w.stops H q, hd zs H p⟩
  | succ m => exact .inr ⟨w.goes i H (by omega) q, Pv (i + 1), fun zs H' p' => ⟨m, by omega, by omega, p'⟩, fun x H' y => hs i x zs H H' (by omega) p (w.yields i H x H' (by omega) q y)⟩
/-! ### defs that ask for repr: promises where it is known that no repr is under way -/
open PySem.Spec PyProof.Rows in
structure FnG (P : Program) (w : World) (K : PySem.W.Frag) (mg : Str → Option Value) (base : Heap) (k : Nat) (f : Addr) (fd : FuncData) (ps : List Str) (sp : Sp) : Prop where
  len : ∀ {vs H Q E}, sp vs H Q E → vs.length = ps.length
  go : ∀ {A' : Around} {outer : List Env} {s : Shared} {H : Hp} {args : Args} {us : List Value} {vs : List V} {Q : VK} {E : XK}, A'.guards = some [] → Room k A' → Env0 P w K mg base A' outer s H → BindsTo s fd args (ps.zip us) → Vals vs us → sp vs H Q E →
    codeAny (model P w) A' (.call (.ref f) args) (CR CX0 outer P w H s Q E) s
open PySem.Spec PyProof.Rows in
theorem okG {P : Program} {w : World} {K : PySem.W.Frag} {mg : Str → Option Value} {base : Heap} {x qual : Str} {st : Stmt} {f : Addr} {fd : FuncData} {N ps : List Str} {k : Nat} {sp : Sp} (F : Fun K x qual st f fd) (S : FnScope N ps (defScope st)) (len : ∀ {vs H Q E}, sp vs H Q E → vs.length = ps.length)
    (body : ∀ (cdv : Value) (A' : Around) (outer : List Env) (s : Shared) (H : Hp) (vs : List V) (Q : VK) (E : XK), A'.guards = some [] → Room k (A'.deeper (envOfC qual (defScope st) s.heap.objs.size f cdv)) → sp vs H Q E →
      ∃ t, PSs (cxOf CX0 P w K mg base N qual (defScope st) f cdv A' outer s H E).nox (defBody st) t ∧ t { nx := fun _ H' => Q .non H', rt := Q } (start N vs) H) : FnG P w K mg base (k + 1) f fd ps sp :=
  ⟨len, fun hg hr e0 hb rv h => at_call F S (len h) hr e0 hb rv fun cdv hr' => body cdv _ _ _ _ _ _ _ hg hr' h⟩
section
open PySem.Spec PyProof.Rows
variable {X : Cx} {k : Nat} {f : Addr} {fd : FuncData} {ps : List Str} {sp : Sp} {x : Str} {p pos : Pos} {e : Expr} {es : List Expr} {t : TA}
theorem run_g {pins : List (Addr × Obj)} {σ : L2.St} {H : Hp} {s : Shared} {Q : VK} {us : List Value} {vs : List V} (F : FnG X.prog X.w X.K X.mg X.base k f fd ps sp) (hgd : X.A.guards = some []) (hr : Room k X.A) (hb : Binds X.K fd ps []) (I : L2.Inv X pins σ H s) (r : Vals vs us) (h : sp vs H Q E0) : wpAny (model X.prog X.w) X.A (call (.ref f) us) (EP X pins σ Q) X.xe s := by
  have hl : (us ++ []).length = ps.length := by
    rw [List.append_nil, ← r.length]
    exact F.len h
  have bnd := hb s us I.kIn hl
  rw [List.append_nil] at bnd
  refine wpAny_call (codeAny_mono (F.go hgd hr I.env0 bnd r h) fun r s' hq => ?_)
  match r, hq with
  | .ok (.ret _), hq => exact I.after hq
theorem pe_callG (F : FnG X.prog X.w X.K X.mg X.base k f fd ps sp) (hgd : X.A.guards = some []) (hr : Room k X.A) (hg : Gl X x) (hm : X.mg x = some (.ref f)) (hk : PySem.W.keepIn X.K (.ref f) = true) (hb : Binds X.K fd ps []) (ha : PA X (e :: es) t)
    (hdb : (x == ("__debug__" : Str)) = false := by decide) (he : starEach (e :: es) X.env = (false, eval e X.env) :: starEach es X.env := by rfl) (hpl : (backTo pos (starEach es X.env)).any (·.1) = false := by rfl) : PE X (.Call (.Name x p) (e :: es) [] pos) (tCall sp [] E0 t) :=
  ⟨fun pins s σ H Q I h => wpAny_Call_Name_kw (ld_glob I hg hm (PySem.W.callWith_K (h₀ := X.base) I.ok.mod.kin hk (thn (ha.run pos pins s σ H _ I h) fun us s1 ⟨vs, H1, I1, r, q⟩ => ⟨I1.kIn, run_g F hgd hr hb I1 r (by have z : sp (vs ++ []) H1 Q E0 := q; rw [List.append_nil] at z; exact z)⟩) he hpl) hdb)⟩
end
section
variable {P : Program} {w : World} {K : PySem.W.Frag} {mg : Str → Option Value} {base : Heap} {A : Ad} {C : Cd}
/-! ### the deck -/
def spDeck (K : PySem.W.Frag) : Sp := fun vs H Q _ => ∃ (a : Addr) (ns : List Int), vs = [.ref a] ∧ SqL K H a (ns.map V.int) ∧ ns.length ≤ 63 ∧
  ∀ (d g c : Addr) (H' : Hp), Same H H' → H d = none → H g = none → H c = none → Dk d g c 0 H' → Q (.ref d) H'
theorem ok__law_deck (T : Tx K mg A) : FnOk P w K mg base CX0 1 A.f__law_deck A.d__law_deck ["_law_script"] (spDeck K) := by
  refine T.d__law_deck.F.ok sc__law_deck (fun vs H Q E h => ?_) (fun cdv A outer s H vs Q E hr h => ?_)
  · obtain ⟨a, ns, rfl, _⟩ := h
    rfl
  · obtain ⟨a, ns, rfl, hS, hlen, k⟩ := h
    refine ⟨_, (pss_cons (ps_setLc (i := 1) (own := [("_law_cell", 2)]) rfl sc__law_deck.nd rfl rfl (sw_true rfl rfl rfl (by decide +kernel)) (pi_list (pv 0)) (blkOk_by (N := N__law_deck) (sc := defScope s__law_deck) (by decide +kernel)) (fun _ _ _ _ _ => (pg_name (i := 2) sc__law_deck.nd rfl (.inl rfl))) (fun _ _ _ _ _ => pts_nil) (fun _ _ _ _ _ => (pe_callB call_abs (by rfl) T.b_abs PyProof.Rows.boot_abs (pa_cons (pv 2) pa_nil))))
        (pss_one (ps_ret (pe_lst (pa_cons (pe_lc (own := [("_law_cell", 2)]) rfl sc__law_deck.nd (pi_list (pv 1)) (blkOk_by (N := N__law_deck) (sc := defScope s__law_deck) (by decide +kernel)) (fun _ _ _ _ _ => (pg_name (i := 2) sc__law_deck.nd rfl (.inl rfl))) (fun _ _ _ _ _ => (pts_one (pt_cmpR op_ge (pv 2) (pe_op op_pow pe_int pe_int) (nomark _)))) (fun _ _ _ _ _ => (pv 2))) (pa_cons (pe_op op_cat (pv 1) (pe_lst (pa_cons (pe_op op_add (pe_callB call_len_seq (by rfl) T.b_len PySem.boot_len (pa_cons (pv 1) pa_nil)) pe_int) pa_nil))) (pa_cons pe_int pa_nil))))))), ?_⟩
    -- cells = [abs(cell) for cell in script]
    refine ⟨.ref a, rfl, a, rfl, ⟨_, hS⟩, fun D hD => lc_list (xs := ns.map V.int) (fun i H' => Same H H' ∧ ∃ cs : List Int, cs.length = i ∧ H' D = some (.lst (cs.map V.int))) ⟨same_upd hD, [], rfl, upd_same⟩ (fun i H' _ h => h.1.seq hS) ?_ ?_⟩
    · rintro i x H' hi ⟨s1, cs, hc, hDs⟩
      obtain ⟨u, rfl⟩ := int_of_map hi
      have hi63 : i < ns.length := by
        have q := (List.getElem?_eq_some_iff.mp hi).1
        rw [List.length_map] at q
        exact q
      refine ⟨rfl, .int u, rfl, u, rfl, cs.map V.int, hDs, by rw [List.length_map]; exact small1000 (by omega), ?_⟩
      refine ⟨fun b o e => ?_, cs ++ [if u < 0 then -u else u], by rw [List.length_append, hc]; rfl, by rw [upd_same, List.map_append]; rfl⟩
      rw [upd_ne (ne_of_none e hD)]
      exact s1 _ _ e
    · rintro H1 ⟨s1, cs, hc, hDs⟩
      rw [List.length_map] at hc
      -- the great ones
      refine ⟨.ref D, rfl, D, rfl, ⟨_, .inl (.inl hDs)⟩, fun G hG => lc_list (xs := cs.map V.int) (fun i H' => Same H1 H' ∧ ∃ gs : List Int, gs.length ≤ i ∧ H' G = some (.lst (gs.map V.int))) ⟨same_upd hG, [], Nat.le_refl _, upd_same⟩ (fun i H' _ h => h.1.seq (.inl (.inl hDs))) ?_ ?_⟩
      · rintro i x H' hi ⟨s2, gs, hg, hGs⟩
        obtain ⟨u, rfl⟩ := int_of_map hi
        have hi63 : i < cs.length := by
          have q := (List.getElem?_eq_some_iff.mp hi).1
          rw [List.length_map] at q
          exact q
        refine ⟨rfl, .int u, rfl, _, _, rfl, rfl, ⟨by decide, by decide, by decide⟩, u, _, rfl, rfl, _, rfl, ite2 (fun _ => ?_) (fun _ => ?_)⟩
        · refine ⟨.int u, rfl, gs.map V.int, hGs, by rw [List.length_map]; exact small1000 (by omega), fun b o e => ?_, gs ++ [u], ?_, by rw [upd_same, List.map_append]; rfl⟩
          · rw [upd_ne (ne_of_none e hG)]
            exact s2 _ _ e
          · rw [List.length_append, List.length_singleton]
            omega
        · exact ⟨s2, gs, by omega, hGs⟩
      · rintro H2 ⟨s2, gs, hg, hGs⟩
        rw [List.length_map] at hg
        have hD2 : H2 D = some (.lst (cs.map V.int)) := s2 _ _ hDs
        -- cells + [len(cells) + 3]
        refine ⟨.ref D, rfl, .ref D, rfl, D, _, rfl, .inl (.inl (.inl hD2)), _, _, rfl, rfl, (by show 1 ≤ sizeLine; decide), fun p hp => ?_⟩
        have npD : D ≠ p := ne_of_none hD2 hp
        have npG : G ≠ p := ne_of_none hGs hp
        refine ⟨D, p, cs.map V.int, _, rfl, rfl, by rw [upd_ne npD]; exact hD2, upd_same, ?_, fun c hc' => ?_⟩
        · rw [List.length_map]
          exact Nat.le_of_lt (small1000 (by show cs.length + 1 ≤ 1000; omega))
        · have ncp : c ≠ p := fun e => by
            rw [e, upd_same] at hc'
            cases hc'
          have hc2 : H2 c = none := by
            rw [upd_ne ncp] at hc'
            exact hc'
          have ncG : G ≠ c := ne_of_none hGs hc2
          refine ⟨(by show 3 ≤ sizeLine; decide), fun d hd => ?_⟩
          have ndc : d ≠ c := fun e => by
            rw [e, upd_same] at hd
            cases hd
          rw [upd_ne ndc] at hd
          have ndp : d ≠ p := fun e => by
            rw [e, upd_same] at hd
            cases hd
          rw [upd_ne ndp] at hd
          have ndG : G ≠ d := ne_of_none hGs hd
          have s3 : Same H H2 := s1.trans s2
          refine k d G c _ (fun b o e => ?_) (s3.free hd) (s1.free hG) (s3.free hc2) ⟨⟨gs, cs ++ [((cs.length : Nat) : Int) + 3], 0, upd_same, ?_, ?_, ?_, ?_, by decide, by decide⟩, ndG.symm, ndc, ncG⟩
          · have e2 := s3 _ _ e
            rw [upd_ne (ne_of_none e2 hd), upd_ne (ne_of_none e2 hc2), upd_ne (ne_of_none e2 hp)]
            exact e2
          · rw [upd_ne ndG, upd_ne ncG, upd_ne npG]
            exact hGs
          · rw [upd_ne ndc.symm, upd_same, List.map_append, List.length_map]
            rfl
          · rw [List.length_append]
            show 0 < cs.length + 1
            omega
          · rw [List.length_append]
            show cs.length + 1 ≤ 100
            omega
def spNext : Sp := fun vs H Q _ => ∃ (d g c : Addr) (k m : Int), vs = [.ref d, .int m] ∧ 0 < m ∧ m < 1208925819614629174706176 ∧ Dk d g c k H ∧ k ≤ 1000000000 ∧
  ∀ (r : Int) (H' : Hp), 0 ≤ r → r < m → Dk d g c (k + 1) H' → Fr d g H H' → Q (.int r) H'
def lenAt (g : Addr) (H : Hp) : Nat := match H g with
  | some (.lst xs) => xs.length
  | _ => 0
theorem lenAt_of {g : Addr} {H : Hp} {xs : List V} (h : H g = some (.lst xs)) : lenAt g H = xs.length := by
  unfold lenAt
  rw [h]
theorem ok__law_next (T : Tx K mg A) : FnOk P w K mg base CX0 1 A.f__law_next A.d__law_next ["_law_deck_here", "_law_many"] spNext := by
  refine T.d__law_next.F.ok sc__law_next (fun vs H Q E h => ?_) (fun cdv A outer s H vs Q E hr h => ?_)
  · obtain ⟨d, g, c, k, m, rfl, _⟩ := h
    rfl
  · obtain ⟨d, g, c, k, m, rfl, hm, hm2, D0, hk, q⟩ := h
    have hW : m.natAbs < 2 ^ 80 := by
      show m.natAbs < 1208925819614629174706176
      omega
    refine ⟨_, (pss_cons (ps_while PassesOwn.never (pt_cmpR (op_neD hr.units) (pe_ix ix_list (pv 0) pe_int (fun _ _ => rfl)) (pe_lst pa_nil) (nomark _))
        (pss_cons (ps_set (i := 4) sc__law_next.nd rfl (.inl rfl) (pe_ix ix_list (pe_ix ix_list (pv 0) pe_int (fun _ _ => rfl)) pe_int (fun _ _ => rfl)))
        (pss_cons (ps_if (pt_cmpR op_gt (pv 4) pe_int (nomark _))
        (pss_cons (ps_asg (pe_op op_fdivW (pv 4) (pv 1)) (pg_sub (pe_ix ix_list (pv 0) pe_int (fun _ _ => rfl)) pe_int set_list))
        (pss_one (ps_ret (pe_op op_mod (pv 4) (pv 1)))))
        pss_nil)
        (pss_one (ps_expr (pe_bm PySem.F.plainAttrs_list PySem.F.slot_list_pop PySem.F.type_list_pop mt_popAt (pe_ix ix_list (pv 0) pe_int (fun _ _ => rfl)) (pa_cons pe_int pa_nil)))))))
        (pss_cons (ps_asg (pe_op op_add (pe_ix ix_list (pv 0) pe_int (fun _ _ => rfl)) pe_int) (pg_sub (pv 0) pe_int set_list))
        (pss_cons (ps_set (i := 2) sc__law_next.nd rfl (.inl rfl) (pe_op op_mod (pe_ix ix_list (pe_ix ix_list (pv 0) pe_int (fun _ _ => rfl)) (pe_op op_mod (pe_ix ix_list (pv 0) pe_int (fun _ _ => rfl)) (pe_callB call_len_seq (by rfl) T.b_len PySem.boot_len (pa_cons (pe_ix ix_list (pv 0) pe_int (fun _ _ => rfl)) pa_nil))) (fun _ _ => rfl)) pe_int))
        (pss_cons (ps_set (i := 3) sc__law_next.nd rfl (.inl rfl) (pe_op op_add (pe_op op_add (pe_op op_mul (pv 2) (pe_op op_add pe_int (pe_op op_mul pe_int (pe_ix ix_list (pv 0) pe_int (fun _ _ => rfl))))) (pe_op op_mul (pe_op op_mul pe_int (pe_ix ix_list (pv 0) pe_int (fun _ _ => rfl))) (pe_ix ix_list (pv 0) pe_int (fun _ _ => rfl)))) pe_int))
        (pss_cons (ps_set (i := 3) sc__law_next.nd rfl (.inl rfl) (pe_op op_mod (pv 3) pe_int))
        (pss_one (ps_ret (pe_op op_mod (pe_op op_fdivW (pe_op op_mod (pe_op op_mul (pv 3) (pv 3)) pe_int) pe_int) (pv 1))))))))), ?_⟩
    refine while_by (fun σ H' => ∃ v2 v3 v4, σ = [some (.ref d), some (.int m), v2, v3, v4] ∧ Dk d g c k H' ∧ Fr d g H H') (fun _ H' => lenAt g H') ⟨none, none, none, rfl, D0, Fr.refl _ _ _⟩ ?_ ?_
    · rintro σ H1 ⟨v2, v3, v4, rfl, D1, f1⟩
      obtain ⟨gs, cs, n, h1, h2, h3, h4, h5, h6, h7⟩ := D1.ex
      refine ⟨.ref d, rfl, d, _, 0, .ref g, rfl, rfl, SqL.of h1, atI_zero, Nat.zero_le _, fun p hp => ?_⟩
      obtain ⟨npd, npg, npc⟩ := D1.nd hp
      have k1 : upd H1 p (.lst []) d = some (.lst [.ref g, .ref c, .int n]) := by
        rw [upd_ne npd.symm]
        exact h1
      have k2 : upd H1 p (.lst []) g = some (.lst (gs.map V.int)) := by
        rw [upd_ne npg.symm]
        exact h2
      have k3 : upd H1 p (.lst []) c = some (.lst (cs.map V.int)) := by
        rw [upd_ne npc.symm]
        exact h3
      have f2 : Fr d g H (upd H1 p (.lst [])) := f1.trans (.new hp)
      have eL : lenAt g H1 = gs.length := by rw [lenAt_of h2, List.length_map]
      have k4 : upd H1 p (.lst []) p = some (.lst []) := upd_same
      generalize upd H1 p (.lst []) = H2 at k1 k2 k3 k4 f2 ⊢
      refine ⟨.list (gs.map PyData.int), .list ([].map PyData.int), .lst (SqL.of k2) (dp_ints gs), .lst (SqL.of k4) .nil, sh_ints gs, sh_ints [], _, rfl, ?_⟩
      cases gs with
      | cons x r =>
        -- rest = deck[0][0]
        refine ⟨.ref d, rfl, d, _, 0, _, rfl, rfl, SqL.of k1, atI_zero, g, _, 0, _, rfl, rfl, SqL.of k2, atI_zero, ?_⟩
        refine ⟨.int x, rfl, x, 0, rfl, rfl, _, rfl, ite2 (fun _ => ?_) (fun _ => ?_)⟩
        · -- deck[0][0] = rest // many; return rest % many
          refine ⟨.int x, rfl, .int m, rfl, x, m, rfl, rfl, wide_div hm hW (by decide) (by decide), .ref d, rfl, d, _, 0, _, rfl, rfl, SqL.of k1, atI_zero, g, _, 0, 0, rfl, rfl, k2, ixN_zero (by simp), ?_⟩
          refine ⟨.int x, rfl, .int m, rfl, x, m, rfl, rfl, hm, ?_⟩
          refine q _ _ (Int.emod_nonneg _ (by omega)) (Int.emod_lt_of_pos _ hm) ⟨⟨(x / m) :: r, cs, n, ?_, ?_, ?_, h4, h5, h6, by omega⟩, D1.dg, D1.dc, D1.gc⟩ (f2.trans .atg)
          · rw [upd_ne D1.dg]
            exact k1
          · rw [upd_same]
            rfl
          · rw [upd_ne D1.gc.symm]
            exact k3
        · -- deck[0].pop(0)
          refine ⟨.ref d, rfl, d, _, 0, _, rfl, rfl, SqL.of k1, atI_zero, .inl ⟨rfl, _, SqL.of k2⟩, g, _, 0, 0, .int x, rfl, rfl, k2, by decide, by decide, ixN_seq0 (by simp), rfl, ?_⟩
          refine ⟨⟨_, _, _, rfl, ⟨⟨r, cs, n, ?_, ?_, ?_, h4, h5, h6, h7⟩, D1.dg, D1.dc, D1.gc⟩, f2.trans .atg⟩, ?_⟩
          · rw [upd_ne D1.dg]
            exact k1
          · rw [upd_same]
            rfl
          · rw [upd_ne D1.gc.symm]
            exact k3
          · show lenAt g (upd H2 g _) < lenAt g H1
            rw [eL, lenAt_of upd_same]
            show (r.map V.int).length < r.length + 1
            rw [List.length_map]
            omega
      | nil =>
        -- deck[2] = deck[2] + 1
        refine ⟨.ref d, rfl, d, _, 2, _, rfl, rfl, SqL.of k1, atI_nat (j := 2) rfl, n, 1, rfl, rfl, .ref d, rfl, d, _, 2, 2, rfl, rfl, k1, rfl, ?_⟩
        have j1 : upd H2 d (.lst ([V.ref g, V.ref c, V.int n].set 2 (V.int (n + 1)))) d = some (.lst [.ref g, .ref c, .int (n + 1)]) := upd_same
        have j2 : upd H2 d (.lst ([V.ref g, V.ref c, V.int n].set 2 (V.int (n + 1)))) g = some (.lst []) := by
          rw [upd_ne D1.dg.symm]
          exact k2
        have j3 : upd H2 d (.lst ([V.ref g, V.ref c, V.int n].set 2 (V.int (n + 1)))) c = some (.lst (cs.map V.int)) := by
          rw [upd_ne D1.dc.symm]
          exact k3
        have f3 : Fr d g H (upd H2 d (.lst ([V.ref g, V.ref c, V.int n].set 2 (V.int (n + 1))))) := f2.trans .atd
        generalize upd H2 d (.lst ([V.ref g, V.ref c, V.int n].set 2 (V.int (n + 1)))) = H3 at j1 j2 j3 f3 ⊢
        have hl : (0 : Int) < (cs.map V.int).length := by
          rw [List.length_map]
          omega
        obtain ⟨v, hv⟩ := ints_at (cs := cs) (i := (n + 1) % ((cs.map V.int).length : Int)) (Int.emod_nonneg _ (by omega)) (by
          have z := Int.emod_lt_of_pos (n + 1) hl
          rw [List.length_map] at z ⊢
          exact z)
        -- the cell
        refine ⟨.ref d, rfl, d, _, 1, _, rfl, rfl, SqL.of j1, atI_nat (j := 1) rfl, .ref d, rfl, d, _, 2, _, rfl, rfl, SqL.of j1, atI_nat (j := 2) rfl, .ref d, rfl, d, _, 1, _, rfl, rfl, SqL.of j1, atI_nat (j := 1) rfl, c, _, rfl, .inl (SqL.of j3), n + 1, _, rfl, rfl, hl, c, _, _, .int v, rfl, rfl, SqL.of j3, hv, v, 2147483647, rfl, rfl, (by show (0 : Int) < 2147483647; decide), ?_⟩
        have q0 : 0 ≤ v % 2147483647 := Int.emod_nonneg _ (by decide)
        have q1 : v % 2147483647 < 2147483647 := Int.emod_lt_of_pos _ (by decide)
        refine ⟨.int (v % 2147483647), rfl, .ref d, rfl, d, _, 2, _, rfl, rfl, SqL.of j1, atI_nat (j := 2) rfl, 69621, n + 1, rfl, rfl, .inl ⟨by decide, by decide⟩, 48271, _, rfl, rfl, v % 2147483647, _, rfl, rfl, .inl ⟨by omega, by omega⟩,
          .ref d, rfl, d, _, 2, _, rfl, rfl, SqL.of j1, atI_nat (j := 2) rfl, 40692, n + 1, rfl, rfl, .inl ⟨by decide, by decide⟩, .ref d, rfl, d, _, 2, _, rfl, rfl, SqL.of j1, atI_nat (j := 2) rfl, _, n + 1, rfl, rfl, .inr ⟨by omega, by omega⟩, _, _, rfl, rfl, _, 11, rfl, rfl, ?_⟩
        refine ⟨_, rfl, _, 2147483629, rfl, rfl, (by show (0 : Int) < 2147483629; decide), ?_⟩
        refine ⟨_, rfl, _, rfl, _, _, rfl, rfl, .inl (mod_in (by decide) (by decide)), _, 2147483587, rfl, rfl, (by show (0 : Int) < 2147483587; decide), _, 16, rfl, rfl, wide_div (b := 5) (by decide) (by decide) (by decide) (by decide), .int m, rfl, _, m, rfl, rfl, hm, ?_⟩
        exact q _ _ (Int.emod_nonneg _ (by omega)) (Int.emod_lt_of_pos _ hm) ⟨⟨[], cs, n + 1, j1, j2, j3, h4, h5, by omega, by omega⟩, D1.dg, D1.dc, D1.gc⟩ f3
    · rintro σ H1 Q1 Q2 hq ⟨v, e, p, xs, i, v', e1, e2, hs, ha, hz, f⟩
      refine ⟨v, e, p, xs, i, v', e1, e2, hs, ha, hz, fun r hr => ?_⟩
      obtain ⟨d1, d2, a1, a2, a3, a4, kk, ek, qk⟩ := f r hr
      exact ⟨d1, d2, a1, a2, a3, a4, kk, ek, hq _ _ qk⟩
/-! ### what is drawn -/
def prs : List Int := [2, 3, 5, 7, 11, 13]
theorem prs_bd : ∀ p ∈ prs, 2 ≤ p ∧ p ≤ 13 := by decide
theorem ints_mem {cs : List Int} {i : Int} (h0 : 0 ≤ i) (h1 : i < cs.length) : ∃ v : Int, v ∈ cs ∧ atI (cs.map V.int) i = some (V.int v) := by
  obtain ⟨j, rfl⟩ := Int.eq_ofNat_of_zero_le h0
  have hj : j < cs.length := by omega
  refine ⟨cs[j], List.getElem_mem hj, ?_⟩
  apply atI_nat
  rw [List.getElem?_map, List.getElem?_eq_getElem hj]
  rfl
def spPrm : Sp := fun vs H Q _ => ∃ (d g c : Addr) (k : Int), vs = [.ref d] ∧ Dk d g c k H ∧ k ≤ 1000000 ∧
  ∀ (p : Int) (H' : Hp), p ∈ prs → Dk d g c (k + 1) H' → Fr d g H H' → Q (.int p) H'
theorem ok__law_prime (T : Tx K mg A) : FnOk P w K mg base CX0 2 A.f__law_prime A.d__law_prime ["_law_deck_here"] spPrm := by
  have G__law_next : FnOk P w K mg base CX0 1 A.f__law_next A.d__law_next ["_law_deck_here", "_law_many"] spNext := ok__law_next T
  refine T.d__law_prime.F.ok sc__law_prime (fun vs H Q E h => ?_) (fun cdv A outer s H vs Q E hr h => ?_)
  · obtain ⟨d, g, c, k, rfl, _⟩ := h
    rfl
  · obtain ⟨d, g, c, k, rfl, D0, hk, q⟩ := h
    refine ⟨_, (pss_one (ps_ret (pe_ix ix_tup (pe_tup (pa_cons pe_int (pa_cons pe_int (pa_cons pe_int (pa_cons pe_int (pa_cons pe_int (pa_cons pe_int pa_nil))))))) (pe_call G__law_next hr (by rfl) T.d__law_next.g T.d__law_next.F.kp T.d__law_next.b .nil pass0 (pa_cons (pv 0) (pa_cons pe_int pa_nil))) (fun _ _ => rfl)))), ?_⟩
    refine ⟨(by show 6 ≤ sizeLine; decide), fun t ht => ?_⟩
    have nt := D0.nd ht
    refine ⟨.ref d, rfl, d, g, c, k, 6, rfl, by decide, by decide, D0.same (same_upd ht), by omega, fun r H1 r0 r1 D1 f1 => ?_⟩
    obtain ⟨v, hv, ev⟩ := ints_mem (cs := prs) r0 r1
    exact ⟨t, _, r, .int v, rfl, rfl, SqT.of (f1 t _ nt.1 nt.2.1 upd_same), ev, q v H1 hv D1 ((Fr.new ht).trans f1)⟩
def spNums : Sp := fun vs H Q _ => ∃ (d g c : Addr) (k p m : Int), vs = [.ref d, .int p, .int m] ∧ Dk d g c k H ∧ k ≤ 1000000 ∧ 2 ≤ p ∧ p ≤ 13 ∧ 0 ≤ m ∧ m ≤ 100 ∧
  ∀ (t : Addr) (ns : List Int) (H' : Hp), (∀ n ∈ ns, 0 ≤ n ∧ n < p) → ns.length = m.toNat → H' t = some (.tup (ns.map V.int)) → Dk d g c (k + 2 * m) H' → Fr d g H H' → Q (.ref t) H'
theorem ok__law_numbers (T : Tx K mg A) : FnOk P w K mg base CX0 2 A.f__law_numbers A.d__law_numbers ["_law_deck_here", "_law_p", "_law_many"] spNums := by
  have G__law_next : FnOk P w K mg base CX0 1 A.f__law_next A.d__law_next ["_law_deck_here", "_law_many"] spNext := ok__law_next T
  refine T.d__law_numbers.F.ok sc__law_numbers (fun vs H Q E h => ?_) (fun cdv A outer s H vs Q E hr h => ?_)
  · obtain ⟨d, g, c, k, p, m, rfl, _⟩ := h
    rfl
  · obtain ⟨d, g, c, k, p, m, rfl, D0, hk, p2, p13, m0, m1, q⟩ := h
    refine ⟨_, (pss_one (ps_ret (pe_callTy call_tuple_of (by rfl) T.b_tuple PyProof.Rows.boot_tuple (pa_cons (pe_lc (own := [("_law_k", 3)]) rfl sc__law_numbers.nd (pi_range1 (by rfl) T.b_range (pa_cons (pv 2) pa_nil)) (blkOk_by (N := N__law_numbers) (sc := defScope s__law_numbers) (by decide +kernel)) (fun _ _ _ _ _ => (pg_name (i := 3) sc__law_numbers.nd rfl (.inl rfl))) (fun _ _ _ _ _ => pts_nil) (fun _ _ _ _ _ => (pe_op op_mul (pe_call G__law_next hr (by rfl) T.d__law_next.g T.d__law_next.F.kp T.d__law_next.b .nil pass0 (pa_cons (pv 0) (pa_cons (pv 1) pa_nil))) (pe_callTy call_int1 (by rfl) T.b_int PyProof.Rows.boot_int (pa_cons (pe_cmpR op_gt (pe_call G__law_next hr (by rfl) T.d__law_next.g T.d__law_next.F.kp T.d__law_next.b .nil pass0 (pa_cons (pv 0) (pa_cons pe_int pa_nil))) pe_int (nomark _)) pa_nil))))) pa_nil)))), ?_⟩
    refine ⟨.int m, rfl, m, rfl, by omega, by omega, fun L hL => lc_range (fun i H' => Dk d g c (k + 2 * i) H' ∧ Fr d g H H' ∧ ∃ ns : List Int, (∀ n ∈ ns, 0 ≤ n ∧ n < p) ∧ ns.length = i ∧ H' L = some (.lst (ns.map V.int))) ⟨(D0.same (same_upd hL)).mono (by omega), .new hL, [], by simp, rfl, upd_same⟩ ?_ ?_⟩
    · rintro i H1 hi ⟨D1, f1, ns, hns, hlen, eL⟩
      have nL := D0.nd hL
      refine ⟨rfl, .ref d, rfl, .int p, rfl, d, g, c, _, p, rfl, by omega, by omega, D1, by omega, fun r H2 r0 r1 D2 f2 => ?_⟩
      refine ⟨.ref d, rfl, d, g, c, _, 4, rfl, by decide, by decide, D2, by omega, fun r2 H3 _ _ D3 f3 => ?_⟩
      have eL3 := f3 L _ nL.1 nL.2.1 (f2 L _ nL.1 nL.2.1 eL)
      refine ⟨r2, 0, rfl, rfl, .inr ⟨_, rfl, r, _, rfl, rfl, .inl ⟨by omega, by omega⟩, _, eL3, by rw [List.length_map]; exact small1000 (by omega), ?_⟩⟩
      have hz : ∀ b : Bool, 0 ≤ r * (if b = true then 1 else 0) ∧ r * (if b = true then 1 else 0) < p := by
        intro b
        cases b with
        | true => simp; omega
        | false => simp; omega
      have zL : Dk d g c (k + 2 * (i + 1 : Nat)) (upd H3 L (.lst (ns.map V.int ++ [V.int (r * (if decide (0 < r2) = true then 1 else 0))]))) := by
        obtain ⟨gs, cs, n, h1, h2, h3, h4, h5, h6, h7⟩ := D3.ex
        exact ⟨⟨gs, cs, n, by rw [upd_ne nL.1.symm]; exact h1, by rw [upd_ne nL.2.1.symm]; exact h2, by rw [upd_ne nL.2.2.symm]; exact h3, h4, h5, h6, by omega⟩, D3.dg, D3.dc, D3.gc⟩
      refine ⟨zL, fun b o e1 e2 e => ?_, ns ++ [r * (if decide (0 < r2) = true then 1 else 0)], ?_, by rw [List.length_append, hlen]; rfl, by rw [upd_same, List.map_append]; rfl⟩
      · rw [upd_ne (ne_of_none e hL)]
        exact f3 _ _ e1 e2 (f2 _ _ e1 e2 (f1 _ _ e1 e2 e))
      · intro n hn
        rcases List.mem_append.mp hn with hn | hn
        · exact hns n hn
        · rw [List.mem_singleton.mp hn]
          exact hz _
    · rintro H1 ⟨D1, f1, ns, hns, hlen, eL⟩
      refine ⟨L, _, rfl, .inl ⟨SqL.of eL, fun t ht => ?_⟩⟩
      exact q t ns _ hns hlen upd_same ((D1.same (same_upd ht)).mono (by omega)) (f1.trans (.new ht))
/-! ### rows that are drawn -/
def In (p : Int) (r : Row) : Prop := ∀ u ∈ r, (0 ≤ u.1 ∧ u.1 < p) ∧ 0 ≤ u.2 ∧ u.2 < p
theorem In.fit {p : Int} {r : Row} (h : In p r) (h2 : p ≤ 13) (h3 : r.length ≤ 20) : Fit r := ⟨h3, fun u hu => by have := h u hu; omega⟩
theorem Dk.nt {d g c a : Addr} {k : Int} {H : Hp} {xs : List V} (D : Dk d g c k H) (h : H a = some (.tup xs)) : a ≠ d ∧ a ≠ g := by
  obtain ⟨gs, cs, n, h1, h2, _⟩ := D.ex
  exact ⟨ne_of h h1 (by intro z; cases z), ne_of h h2 (by intro z; cases z)⟩
theorem Dk.ntb {d g c a : Addr} {k : Int} {H : Hp} (D : Dk d g c k H) (h : GxR.TabG H a) : a ≠ d ∧ a ≠ g := by
  obtain ⟨gs, cs, n, h1, h2, _⟩ := D.ex
  obtain ⟨ps, h, _⟩ := h
  exact ⟨ne_of h h1 (by intro z; cases z), ne_of h h2 (by intro z; cases z)⟩
theorem Dk.sm {d g c : Addr} {k : Int} {H H' : Hp} (D : Dk d g c k H) (s : Sm H H') : Dk d g c k H' := by
  obtain ⟨gs, cs, n, h1, h2, h3, h4, h5, h6, h7⟩ := D.ex
  exact ⟨⟨gs, cs, n, s.lst h1, s.lst h2, s.lst h3, h4, h5, h6, h7⟩, D.dg, D.dc, D.gc⟩
section
variable {d g c L : Addr} {k : Int} {H H' : Hp} {xs : List V} {r : Row} {t : Addr}
theorem Fr.tup (f : Fr d g H H') (D : Dk d g c k H) (h : H t = some (.tup xs)) : H' t = some (.tup xs) := f _ _ (D.nt h).1 (D.nt h).2 h
theorem Fr.tab (f : Fr d g H H') (D : Dk d g c k H) (h : GxR.TabG H t) : GxR.TabG H' t := let n := D.ntb h; let ⟨ps, e, z⟩ := h; ⟨ps, f _ _ n.1 n.2 e, z⟩
theorem Prs.fr (h : Prs H xs r) (D : Dk d g c k H) (f : Fr d g H H') : Prs H' xs r := ⟨h.len, fun e => let ⟨u, e2, a, ea, p⟩ := h.get e; ⟨u, e2, a, ea, f.tup D p⟩⟩
theorem Rw.fr (h : Rw H t r) (D : Dk d g c k H) (f : Fr d g H H') : Rw H' t r := let ⟨xs, e, p⟩ := h; ⟨xs, f.tup D e, p.fr D f⟩
theorem Prs.put {ys : List V} {o : HO} (h : Prs H xs r) (e : H L = some (.lst ys)) : Prs (upd H L o) xs r := ⟨h.len, fun e1 => let ⟨u, e2, a, ea, p⟩ := h.get e1; ⟨u, e2, a, ea, by rw [upd_ne (ne_of p e (by intro z; cases z))]; exact p⟩⟩
theorem Dk.put {o : HO} (D : Dk d g c k H) (h1 : L ≠ d) (h2 : L ≠ g) (h3 : L ≠ c) : Dk d g c k (upd H L o) := by
  obtain ⟨gs, cs, n, e1, e2, e3, h4, h5, h6, h7⟩ := D.ex
  exact ⟨⟨gs, cs, n, by rw [upd_ne h1.symm]; exact e1, by rw [upd_ne h2.symm]; exact e2, by rw [upd_ne h3.symm]; exact e3, h4, h5, h6, h7⟩, D.dg, D.dc, D.gc⟩
end
theorem two_ints {ns : List Int} (h : ns.length = (2 : Int).toNat) : ∃ x y, ns = [x, y] := by
  match ns, h with
  | [x, y], _ => exact ⟨x, y, rfl⟩
/-! rows of so many posts, tables -/
structure Rk (p : Int) (n : Nat) (H : Hp) (t : Addr) (r : Row) : Prop where
  rw : Rw H t r
  inp : In p r
  len : r.length = n
theorem Rk.sm {p : Int} {n : Nat} {H H' : Hp} {t : Addr} {r : Row} (h : Rk p n H t r) (s : Sm H H') : Rk p n H' t r := ⟨h.rw.sm s, h.inp, h.len⟩
theorem Rk.fit {p : Int} {n : Nat} {H : Hp} {t : Addr} {r : Row} (h : Rk p n H t r) (h2 : p ≤ 13) (h3 : n ≤ 20) : Fit r := h.inp.fit h2 (by rw [h.len]; exact h3)
theorem Rk.fr {p : Int} {n : Nat} {H H' : Hp} {t d g c : Addr} {k : Int} {r : Row} (h : Rk p n H t r) (D : Dk d g c k H) (f : Fr d g H H') : Rk p n H' t r := ⟨h.rw.fr D f, h.inp, h.len⟩
theorem Rk.put {p : Int} {n : Nat} {H : Hp} {t L : Addr} {r : Row} {ys : List V} {o : HO} (h : Rk p n H t r) (e : H L = some (.lst ys)) : Rk p n (upd H L o) t r := by
  obtain ⟨⟨xs, h1, h2⟩, h3, h4⟩ := h
  exact ⟨⟨xs, by rw [upd_ne (ne_of h1 e (by intro z; cases z))]; exact h1, h2.put e⟩, h3, h4⟩
/-! ### the program's rows -/
def spNought : Sp := fun vs H Q _ => ∃ (n : Int), vs = [.int n] ∧ 0 ≤ n ∧ n ≤ 20 ∧ ∀ t H', Sm H H' → Rw H' t (noR n.toNat) → Q (.ref t) H'
theorem rep_one {α : Type} (x : α) : ∀ k : Nat, (List.replicate k [x]).flatten = List.replicate k x
  | 0 => rfl
  | k + 1 => by
    rw [List.replicate_succ, List.flatten_cons, rep_one x k]
    rfl
theorem prs_rep {H : Hp} {x : V} {u : Int × Int} (p : Pr H x u) (k : Nat) : Prs H (List.replicate k x) (List.replicate k u) := by
  refine ⟨by simp, fun {i y} e => ?_⟩
  have hi : i < k := by
    have := (List.getElem?_eq_some_iff.mp e).1
    simpa using this
  rw [List.getElem?_replicate, if_pos hi] at e
  cases e
  exact ⟨u, by rw [List.getElem?_replicate, if_pos hi], p⟩
theorem ok_nought (T : Tx K mg A) : FnOk P w K mg base CX0 1 A.f_nought A.d_nought ["posts"] spNought := by
  refine T.d_nought.F.ok sc_nought (fun vs H Q E h => ?_) (fun cdv A outer s H vs Q E hr h => ?_)
  · obtain ⟨n, rfl, _⟩ := h
    rfl
  · obtain ⟨n, rfl, n0, n1, q⟩ := h
    refine ⟨_, (pss_one (ps_ret (pe_op Gx.op_repA (pe_tup (pa_cons (pe_tup (pa_cons pe_int (pa_cons pe_int pa_nil))) pa_nil)) (pv 0)))), ?_⟩
    refine ⟨(by show 2 ≤ sizeLine; decide), fun t ht => ⟨(by show 1 ≤ sizeLine; decide), fun t2 ht2 => ?_⟩⟩
    have e1 : upd (upd H t (.tup [.int 0, .int 0])) t2 (.tup [.ref t]) t = some (.tup [.int 0, .int 0]) := by
      rw [upd_ne (ne_of_none upd_same ht2)]
      exact upd_same
    have s2 : Sm H (upd (upd H t (.tup [.int 0, .int 0])) t2 (.tup [.ref t])) := (Sm.new ht).trans (.new ht2)
    refine ⟨.int n, rfl, t2, n, _, rfl, rfl, SqT.of upd_same, by simp, n0, by omega, (by show 1 ≤ 1000; decide), fun e => ?_, fun _ t3 ht3 => ?_⟩
    · subst e
      exact q t2 _ s2 ⟨_, upd_same, prs_rep (k := 1) ⟨t, rfl, e1⟩⟩
    · refine q t3 _ (s2.trans (.new ht3)) ⟨_, upd_same, ?_⟩
      rw [rep_one]
      exact (prs_rep ⟨t, rfl, e1⟩ n.toNat).sm (.new ht3)
def spTimes (P : Addr) : Sp := fun vs H Q _ => ∃ (p n : Int) (a : Addr) (r : Row), vs = [.int p, .int n, .ref a] ∧ 0 < p ∧ 0 ≤ n ∧ n < 13 ∧ Rw H a r ∧ Fit r ∧ GxR.TabG H P ∧ ∀ t H', Sm H H' → Rw H' t (timR p n r) → Q (.ref t) H'
theorem ok_times (T : Tx K mg A) (B : Tb K mg base A C) : FnOk P w K mg base CX0 6 A.f_times A.d_times ["p", "number", "row"] (spTimes C.p_times) := by
  refine B.k_times.ok sc_times (fun vs H Q E h => ?_) (fun A outer s H vs Q E hr h => ?_)
  · obtain ⟨p, n, a, r, rfl, _⟩ := h
    rfl
  · obtain ⟨p, n, a, r, rfl, p0, n0, n1, ⟨xs, ha, hp⟩, hf, tg, q⟩ := h
    have hf1 := hf.1
    refine ⟨_, (pss_one (ps_ret (Gx.pe_tupGx (k := 0) (own := [("push", 3), ("answer", 4)]) (g := (gTup K 2 (gCons (gName 3) (gCons (gName 4) gNil)))) rfl hr sc_times.nd (by rfl) T.b_tuple B.t_times rfl (pi_tup (pv 2)) (blkOk_by (N := N_times) (sc := defScope s_times) (by decide +kernel)) rfl rfl (fun _ _ _ _ _ _ => (pg_tup rfl (pgs_cons (pg_name (i := 3) sc_times.nd rfl (.inl rfl) (.inr rfl)) (pgs_cons (pg_name (i := 4) sc_times.nd rfl (.inl rfl) (.inr rfl)) pgs_nil)))) (fun _ _ _ _ _ _ hq => (pe_tup (pa_cons (pe_op op_mod (pe_op op_mul (pv 1) (pv 3)) (pv 0)) (pa_cons (pe_op op_mod (pe_op op_mul (pv 1) (pv 4)) (pv 0)) pa_nil)))) (fun _ => rfl)))), ?_⟩
    refine ⟨.ref a, rfl, a, rfl, ⟨xs, SqT.of ha⟩, tg, fun H2 tb => ?_⟩
    have s2 := Sm.tabbed tg tb
    refine gx_tup (xs := xs) (fun i zs H' => Sm H H' ∧ Prs H' zs ((timR p n r).take i)) ⟨s2, by simpa using Prs.nil⟩ (fun i zs H' _ h => SqT.of (h.1.tup ha)) ?_ ?_
    · rintro i x zs H' hx ⟨s3, hz⟩
      obtain ⟨u, eu, b, rfl, hb⟩ := hp.get hx
      refine ⟨b, _, rfl, SqT.of (s3.tup hb), rfl, _, _, rfl, _, _, rfl, rfl, rfl, ?_⟩
      have hzl := hz.len
      have e2 : (timR p n r)[i]? = some (n * u.1 % p, n * u.2 % p) := by
        unfold timR
        rw [List.getElem?_map, eu]
        rfl
      have hl2 : zs.length ≤ 20 := by
        rw [hzl, List.length_take]
        unfold timR
        rw [List.length_map]
        omega
      refine ⟨.int n, rfl, .int u.1, rfl, n, u.1, rfl, rfl, cmul ⟨n0, n1⟩, .int p, rfl, _, p, rfl, rfl, p0, .int n, rfl, .int u.2, rfl, n, u.2, rfl, rfl, cmul ⟨n0, n1⟩, .int p, rfl, _, p, rfl, rfl, p0, (by show 2 ≤ sizeLine; decide), fun t ht => ⟨small (by omega), s3.trans (.new ht), ?_⟩⟩
      rw [take_snoc e2]
      exact (hz.sm (.new ht)).snoc ⟨t, rfl, upd_same⟩
    · rintro zs H' ⟨s3, hz⟩ t ht
      refine q t _ (s3.trans (.new ht)) ⟨zs, upd_same, ?_⟩
      have e : (timR p n r).take xs.length = timR p n r := by
        rw [hp.len]
        exact List.take_of_length_le (by unfold timR; simp)
      rw [e] at hz
      exact hz.sm (.new ht)
def spAdded (P : Addr) : Sp := fun vs H Q _ => ∃ (p : Int) (a b : Addr) (r s : Row), vs = [.int p, .ref a, .ref b] ∧ 0 < p ∧ Rw H a r ∧ Rw H b s ∧ Fit r ∧ r.length = s.length ∧ GxR.TabG H P ∧ ∀ t H', Sm H H' → Rw H' t (addR p r s) → Q (.ref t) H'
theorem ok_added (T : Tx K mg A) (B : Tb K mg base A C) : FnOk P w K mg base CX0 6 A.f_added A.d_added ["p", "one", "other"] (spAdded C.p_added) := by
  refine B.k_added.ok sc_added (fun vs H Q E h => ?_) (fun A outer s H vs Q E hr h => ?_)
  · obtain ⟨p, a, b, r, s, rfl, _⟩ := h
    rfl
  · obtain ⟨p, a, b, r, s', rfl, p0, ⟨xs, ha, hp⟩, ⟨ys, hb, hp2⟩, hf, hle, tg, q⟩ := h
    have hf1 := hf.1
    refine ⟨_, (pss_one (ps_ret (Gx.pe_tupGx (k := 0) (own := [("a", 3), ("b", 4), ("c", 5), ("d", 6)]) (g := (gTup K 2 (gCons (gTup K 2 (gCons (gName 3) (gCons (gName 4) gNil))) (gCons (gTup K 2 (gCons (gName 5) (gCons (gName 6) gNil))) gNil)))) rfl hr sc_added.nd (by rfl) T.b_tuple B.t_added rfl (RZ.pi_zipA (by rfl) T.b_zip (pa_cons (pv 1) (pa_cons (pv 2) pa_nil))) (blkOk_by (N := N_added) (sc := defScope s_added) (by decide +kernel)) rfl rfl (fun _ _ _ _ _ _ => (pg_tup rfl (pgs_cons (pg_tup rfl (pgs_cons (pg_name (i := 3) sc_added.nd rfl (.inl rfl) (.inr rfl)) (pgs_cons (pg_name (i := 4) sc_added.nd rfl (.inl rfl) (.inr rfl)) pgs_nil))) (pgs_cons (pg_tup rfl (pgs_cons (pg_name (i := 5) sc_added.nd rfl (.inl rfl) (.inr rfl)) (pgs_cons (pg_name (i := 6) sc_added.nd rfl (.inl rfl) (.inr rfl)) pgs_nil))) pgs_nil)))) (fun _ _ _ _ _ _ hq => (pe_tup (pa_cons (pe_op op_mod (pe_op op_add (pv 3) (pv 5)) (pv 0)) (pa_cons (pe_op op_mod (pe_op op_add (pv 4) (pv 6)) (pv 0)) pa_nil)))) (fun _ => rfl)))), ?_⟩
    refine ⟨.ref a, rfl, .ref b, rfl, a, b, xs, ys, rfl, .inr ⟨SqT.of ha, SqT.of hb, tg, fun H2 tb => ?_⟩⟩
    have s2 := Sm.tabbed tg tb
    refine gx_zip (σ := [some (.int p), some (.ref a), some (.ref b), none, none, none, none]) (vs := [3, 4, 5, 6]) (xs := xs) (ys := ys) (by rw [hp.len, hp2.len, hle]) (fun i zs H' => Sm H H' ∧ Prs H' zs ((addR p r s').take i)) ⟨s2, by simpa using Prs.nil⟩ (fun i zs H' h => ⟨SqT.of (h.1.tup ha), SqT.of (h.1.tup hb)⟩) ?_ ?_
    · rintro i x y T1 zs H' hx hy ⟨s3, hz⟩ hT
      obtain ⟨u, eu, b1, rfl, hb1⟩ := hp.get hx
      obtain ⟨v, ev, b2, rfl, hb2⟩ := hp2.get hy
      have s4 := s3.trans (.new (o := .tup [.ref b1, .ref b2]) hT)
      refine ⟨T1, [.ref b1, .ref b2], rfl, SqT.of upd_same, rfl, .ref b1, [.ref b2], rfl, ?_⟩
      refine ⟨b1, [.int u.1, .int u.2], rfl, SqT.of (s4.tup hb1), rfl, .int u.1, [.int u.2], rfl, .int u.2, [], rfl, rfl, .ref b2, [], rfl, ?_⟩
      refine ⟨b2, [.int v.1, .int v.2], rfl, SqT.of (s4.tup hb2), rfl, .int v.1, [.int v.2], rfl, .int v.2, [], rfl, rfl, rfl, ?_⟩
      dsimp only [wipe, List.set]
      refine ⟨rfl, ?_⟩
      have hzl := hz.len
      have e2 : (addR p r s')[i]? = some ((u.1 + v.1) % p, (u.2 + v.2) % p) := by
        unfold addR
        rw [List.getElem?_zipWith, eu, ev]
      have hl2 : zs.length ≤ 20 := by
        rw [hzl, List.length_take]
        unfold addR
        rw [List.length_zipWith]
        omega
      refine ⟨.int u.1, rfl, .int v.1, rfl, u.1, v.1, rfl, rfl, .int p, rfl, _, p, rfl, rfl, p0, .int u.2, rfl, .int v.2, rfl, u.2, v.2, rfl, rfl, .int p, rfl, _, p, rfl, rfl, p0, (by show 2 ≤ sizeLine; decide), fun t ht => ⟨small (by omega), s4.trans (.new ht), ?_⟩⟩
      rw [take_snoc e2]
      exact ((hz.sm (.new hT)).sm (.new ht)).snoc ⟨t, rfl, upd_same⟩
    · rintro zs H' ⟨s3, hz⟩ t ht
      refine q t _ (s3.trans (.new ht)) ⟨zs, upd_same, ?_⟩
      have e : (addR p r s').take xs.length = addR p r s' := by
        rw [hp.len]
        exact List.take_of_length_le (by unfold addR; rw [List.length_zipWith]; omega)
      rw [e] at hz
      exact hz.sm (.new ht)
def spMeet : Sp := fun vs H Q _ => ∃ (p : Int) (a b : Addr) (r s : Row), vs = [.int p, .ref a, .ref b] ∧ 0 < p ∧ Rw H a r ∧ Rw H b s ∧ Fit r ∧ Fit s ∧ r.length = s.length ∧ ∀ H', Sm H H' → Q (.int (metR p r s)) H'
theorem ok_meet (T : Tx K mg A) : FnOk P w K mg base CX0 1 A.f_meet A.d_meet ["p", "one", "other"] spMeet := by
  refine T.d_meet.F.ok sc_meet (fun vs H Q E h => ?_) (fun cdv A outer s H vs Q E hr h => ?_)
  · obtain ⟨p, a, b, r, s, rfl, _⟩ := h
    rfl
  · obtain ⟨p, a, b, r, s', rfl, p0, ⟨xs, ha, hp⟩, ⟨ys, hb, hp2⟩, hf, hf', hle, q⟩ := h
    have hf1 := hf.1
    refine ⟨_, (pss_one (ps_ret (pe_op op_mod (pe_callB (cr_sum rfl) (by rfl) T.b_sum PyProof.Rows.boot_sum (pa_cons (pe_lc (own := [("a", 3), ("b", 4), ("c", 5), ("d", 6)]) (g := (gTup K 2 (gCons (gTup K 2 (gCons (gName 3) (gCons (gName 4) gNil))) (gCons (gTup K 2 (gCons (gName 5) (gCons (gName 6) gNil))) gNil)))) rfl sc_meet.nd (RZ.pi_zipA (by rfl) T.b_zip (pa_cons (pv 1) (pa_cons (pv 2) pa_nil))) (blkOk_by (N := N_meet) (sc := defScope s_meet) (by decide +kernel)) (fun _ _ _ _ _ => (pg_tup rfl (pgs_cons (pg_tup rfl (pgs_cons (pg_name (i := 3) sc_meet.nd rfl (.inl rfl)) (pgs_cons (pg_name (i := 4) sc_meet.nd rfl (.inl rfl)) pgs_nil))) (pgs_cons (pg_tup rfl (pgs_cons (pg_name (i := 5) sc_meet.nd rfl (.inl rfl)) (pgs_cons (pg_name (i := 6) sc_meet.nd rfl (.inl rfl)) pgs_nil))) pgs_nil)))) (fun _ _ _ _ _ => pts_nil) (fun _ _ _ _ _ => (pe_op op_sub (pe_op op_mul (pv 3) (pv 6)) (pe_op op_mul (pv 5) (pv 4))))) pa_nil)) (pv 0)))), ?_⟩
    refine ⟨.ref a, rfl, .ref b, rfl, a, b, xs, ys, rfl, .inr ⟨SqT.of ha, SqT.of hb, fun L hL => ?_⟩⟩
    refine lc_zip (σ := [some (.int p), some (.ref a), some (.ref b), none, none, none, none]) (vs := [3, 4, 5, 6]) (xs := xs) (ys := ys) (by rw [hp.len, hp2.len, hle]) (fun i H' => Sm H H' ∧ H' L = some (.lst (((mets r s').take i).map V.int))) ⟨.new hL, upd_same⟩ (fun i H' h => ⟨SqT.of (h.1.tup ha), SqT.of (h.1.tup hb)⟩) ?_ ?_
    · rintro i x y T1 H' hx hy ⟨s3, hz⟩ hT
      obtain ⟨u, eu, b1, rfl, hb1⟩ := hp.get hx
      obtain ⟨v, ev, b2, rfl, hb2⟩ := hp2.get hy
      have hu := hf.get eu
      have hv := hf'.get ev
      have s4 := s3.trans (.new (o := .tup [.ref b1, .ref b2]) hT)
      refine ⟨T1, [.ref b1, .ref b2], rfl, SqT.of upd_same, rfl, .ref b1, [.ref b2], rfl, ?_⟩
      refine ⟨b1, [.int u.1, .int u.2], rfl, SqT.of (s4.tup hb1), rfl, .int u.1, [.int u.2], rfl, .int u.2, [], rfl, rfl, .ref b2, [], rfl, ?_⟩
      refine ⟨b2, [.int v.1, .int v.2], rfl, SqT.of (s4.tup hb2), rfl, .int v.1, [.int v.2], rfl, .int v.2, [], rfl, rfl, rfl, ?_⟩
      dsimp only [wipe, List.set]
      refine ⟨rfl, ?_⟩
      have e2 : (mets r s')[i]? = some (u.1 * v.2 - v.1 * u.2) := by
        unfold mets
        rw [List.getElem?_zipWith, eu, ev]
      have nT : L ≠ T1 := ne_of_none hz hT
      refine ⟨.int u.1, rfl, .int v.2, rfl, u.1, v.2, rfl, rfl, cmul hu.1, .int v.1, rfl, .int u.2, rfl, v.1, u.2, rfl, rfl, cmul hv.1, _, _, rfl, rfl, _, (by rw [upd_ne nT]; exact hz), ?_, s4.put hL, ?_⟩
      · rw [List.length_map, List.length_take]
        unfold mets
        rw [List.length_zipWith]
        exact small (by omega)
      · rw [upd_same, take_snoc e2, List.map_append]
        rfl
    · rintro H' ⟨s3, hz⟩
      have e : (mets r s').take xs.length = mets r s' := by
        rw [hp.len]
        exact List.take_of_length_le (by unfold mets; rw [List.length_zipWith]; omega)
      rw [e] at hz
      exact ⟨L, _, rfl, SqL.of hz, .int p, rfl, _, p, rfl, rfl, p0, q H' s3⟩
/-! ### the program's clearing, of lists and of tuples -/
/-- a list or a tuple in the heap -/
def At (k : Zm.Kd) (H : Hp) (a : Addr) (xs : List V) : Prop := match k with
  | .l => H a = some (.lst xs)
  | .t => H a = some (.tup xs)
theorem At.sm {k : Zm.Kd} {H H' : Hp} {a : Addr} {xs : List V} (h : At k H a xs) (s : Sm H H') : At k H' a xs := by
  cases k with
  | l => exact s.lst h
  | t => exact s.tup h
theorem At.sq {k : Zm.Kd} {H : Hp} {a : Addr} {xs : List V} (h : At k H a xs) : Zm.Sq k K H a xs := by
  cases k with
  | l => exact SqL.of h
  | t => exact SqT.of h
theorem At.upd {k : Zm.Kd} {H : Hp} {a d : Addr} {xs : List V} {kvs : List (Key × V)} {o : HO} (h : At k H a xs) (e : H d = some (.dK kvs)) : At k (L2.upd H d o) a xs := by
  cases k with
  | l =>
    show L2.upd H d o a = _
    rw [upd_ne (ne_of (show H a = some (.lst xs) from h) e (by intro z; cases z))]
    exact h
  | t =>
    show L2.upd H d o a = _
    rw [upd_ne (ne_of (show H a = some (.tup xs) from h) e (by intro z; cases z))]
    exact h
theorem At.updF {k : Zm.Kd} {H : Hp} {a d : Addr} {xs : List V} {od : Obj} {o' o : HO} (h : At k H a xs) (e : H d = some (.frz od o')) : At k (L2.upd H d o) a xs := by
  cases k with
  | l =>
    show L2.upd H d o a = _
    rw [upd_ne (ne_of (show H a = some (.lst xs) from h) e (by intro z; cases z))]
    exact h
  | t =>
    show L2.upd H d o a = _
    rw [upd_ne (ne_of (show H a = some (.tup xs) from h) e (by intro z; cases z))]
    exact h
def Fl (H : Hp) (a : Addr) (us : List Int) : Prop := H a = some (.lst (us.map V.int))
def Fk (k : Zm.Kd) (H : Hp) (a : Addr) (us : List Int) : Prop := At k H a (us.map V.int)
open Lin (lessZ lessL clearL PL Rg Up vec scaled moreL)
def spLess : Sp := fun vs H Q _ => ∃ (p n : Int) (a b : Addr) (k : Zm.Kd) (us ws : List Int), vs = [.int p, .ref a, .int n, .ref b] ∧ 0 < p ∧ 0 ≤ n ∧ n < 13 ∧ Fk k H a us ∧ Fl H b ws ∧ us.length = ws.length ∧ us.length ≤ 100 ∧ ∀ t k' H', Sm H H' → (k = .l → k' = .l) → Fk k' H' t (lessL p us n ws) → Q (.ref t) H'
theorem ok_lessened (T : Tx K mg A) : FnOk P w K mg base CX0 1 A.f_lessened A.d_lessened ["p", "flat", "number", "other"] spLess := by
  refine T.d_lessened.F.ok sc_lessened (fun vs H Q E h => ?_) (fun cdv A outer s H vs Q E hr h => ?_)
  · obtain ⟨p, n, a, b, k, us, ws, rfl, _⟩ := h
    rfl
  · obtain ⟨p, n, a, b, k, us, ws, rfl, p0, n0, n1, ha, hb, hle, hl, q⟩ := h
    refine ⟨_, (pss_cons (ps_if (pt_cmpR op_eq (pv 2) pe_int (nomark _))
        (pss_one (ps_ret (pv 1)))
        pss_nil)
        (pss_one (ps_ret (pe_lc (own := [("mine", 4), ("its", 5)]) (g := (gTup K 2 (gCons (gName 4) (gCons (gName 5) gNil)))) rfl sc_lessened.nd (Zm.pi_zipK (by rfl) T.b_zip (pa_cons (pv 1) (pa_cons (pv 3) pa_nil))) (blkOk_by (N := N_lessened) (sc := defScope s_lessened) (by decide +kernel)) (fun _ _ _ _ _ => (pg_tup rfl (pgs_cons (pg_name (i := 4) sc_lessened.nd rfl (.inl rfl)) (pgs_cons (pg_name (i := 5) sc_lessened.nd rfl (.inl rfl)) pgs_nil)))) (fun _ _ _ _ _ => pts_nil) (fun _ _ _ _ _ => (pe_op op_mod (pe_op op_sub (pv 4) (pe_op op_mul (pv 2) (pv 5))) (pv 0))))))), ?_⟩
    refine ⟨.int n, rfl, rfl, _, rfl, ite2 (fun e => ?_) (fun e => ?_)⟩
    · have e0 : n = 0 := V.int.inj (of_decide_eq_true e)
      refine ⟨.ref a, rfl, q a k H (.refl _) (fun z => z) ?_⟩
      unfold lessL
      rw [if_pos e0]
      exact ha
    · have e0 : n ≠ 0 := fun z => e (decide_eq_true (congrArg V.int z))
      have hlm : (us.map V.int).length = (ws.map V.int).length := by rw [List.length_map, List.length_map, hle]
      refine ⟨.ref a, rfl, .ref b, rfl, k, .l, a, b, _, _, rfl, At.sq ha, SqL.of hb, fun L hL => ?_⟩
      refine lc_it (σ := [some (.int p), some (.ref a), some (.int n), some (.ref b), none, none]) (vs := [4, 5]) (Zm.walk2 hlm) (fun i H' => Sm H H' ∧ H' L = some (.lst (((lessZ p n us ws).take i).map V.int))) ⟨.new hL, upd_same⟩ (fun i H' _ h => ⟨(At.sm ha h.1).sq, SqL.of (h.1.lst hb)⟩) ?_ ?_
      · rintro i z H' H2 hi ⟨s3, hz⟩ ⟨T1, x, y, rfl, hT, rfl, hx, hy⟩
        dsimp only at hx hy
        rw [List.getElem?_map] at hx hy
        obtain ⟨u, eu, rfl⟩ := Option.map_eq_some_iff.mp hx
        obtain ⟨v, ev, rfl⟩ := Option.map_eq_some_iff.mp hy
        have s4 := s3.trans (.new (o := .tup [.int u, .int v]) hT)
        have e2 : (lessZ p n us ws)[i]? = some ((u - n * v) % p) := by
          unfold lessZ
          rw [List.getElem?_zipWith, eu, ev]
        have nT : L ≠ T1 := ne_of_none hz hT
        refine ⟨T1, [.int u, .int v], rfl, SqT.of upd_same, rfl, .int u, [.int v], rfl, .int v, [], rfl, rfl, ?_⟩
        dsimp only [wipe, List.set]
        refine ⟨rfl, .int u, rfl, .int n, rfl, .int v, rfl, n, v, rfl, rfl, cmul ⟨n0, n1⟩, _, _, rfl, rfl, .int p, rfl, _, p, rfl, rfl, p0, _, (by rw [upd_ne nT]; exact hz), ?_, s4.put hL, ?_⟩
        · rw [List.length_map, List.length_take]
          unfold lessZ
          rw [List.length_zipWith]
          exact small (by omega)
        · rw [upd_same, take_snoc e2, List.map_append]
          rfl
      · rintro H' ⟨s3, hz⟩
        have e2 : (lessZ p n us ws).take (us.map V.int).length = lessZ p n us ws := by
          rw [List.length_map]
          exact List.take_of_length_le (by unfold lessZ; rw [List.length_zipWith]; omega)
        rw [e2] at hz
        refine q L .l H' s3 (fun _ => rfl) ?_
        unfold lessL
        rw [if_neg e0]
        exact hz
def spFirst : Sp := fun vs H Q _ => ∃ (a : Addr) (k : Zm.Kd) (us : List Int), vs = [.ref a] ∧ Fk k H a us ∧ us.length ≤ 100 ∧ (∀ (i : Nat) (u : Int) (H' : Hp), us[i]? = some u → u ≠ 0 → (∀ j, j < i → us[j]? = some 0) → Sm H H' → Q (.int (i : Nat)) H') ∧ ∀ H', (∀ x ∈ us, x = 0) → Sm H H' → Q .non H'
theorem ok_first_place (T : Tx K mg A) : FnOk P w K mg base CX0 1 A.f_first_place A.d_first_place ["flat"] spFirst := by
  refine T.d_first_place.F.ok sc_first_place (fun vs H Q E h => ?_) (fun cdv A outer s H vs Q E hr h => ?_)
  · obtain ⟨a, k, us, rfl, _⟩ := h
    rfl
  · obtain ⟨a, k, us, rfl, ha, hl, q1, q2⟩ := h
    refine ⟨_, (pss_cons (ps_for PassesOwn.never rfl (En.pi_enumK (by rfl) T.b_enumerate (pa_cons (pv 0) pa_nil)) (pg_tup rfl (pgs_cons (pg_name (i := 1) sc_first_place.nd rfl (.inl rfl)) (pgs_cons (pg_name (i := 2) sc_first_place.nd rfl (.inl rfl)) pgs_nil)))
        (pss_one (ps_if (pt_cmpR op_ne (pv 2) pe_int (nomark _))
        (pss_one (ps_ret (pv 1)))
        pss_nil)))
        (pss_one (ps_ret pe_non))), ?_⟩
    refine ⟨.ref a, rfl, k, a, _, rfl, At.sq ha, for_it En.walkE (fun i σ H' => ∃ v1 v2, σ = [some (.ref a), v1, v2] ∧ Sm H H' ∧ ∀ j, j < i → us[j]? = some 0) ⟨_, _, rfl, .refl _, fun j hj => absurd hj (Nat.not_lt_zero _)⟩ (fun i σ H' _ h => by obtain ⟨_, _, _, s, _⟩ := h; exact (At.sm ha s).sq) ?_ ?_⟩
    · rintro i z σ H' H2 hi ⟨v1, v2, rfl, s1, hz⟩ ⟨T1, y, x, rfl, hT, rfl, hy, hx⟩
      cases hy
      dsimp only at hx
      rw [List.getElem?_map] at hx
      obtain ⟨u, eu, rfl⟩ := Option.map_eq_some_iff.mp hx
      have s2 := s1.trans (.new (o := .tup [.int (i : Nat), .int u]) hT)
      refine ⟨T1, [.int (i : Nat), .int u], rfl, SqT.of upd_same, rfl, .int (i : Nat), [.int u], rfl, .int u, [], rfl, rfl, ?_⟩
      refine ⟨.int u, rfl, rfl, _, rfl, ite2 (fun e => ?_) (fun e => ?_)⟩
      · have hu : u ≠ 0 := fun z => by
          subst z
          simp at e
        exact ⟨.int (i : Nat), rfl, q1 i u _ eu hu hz s2⟩
      · have hu : u = 0 := by
          by_cases z : u = 0
          · exact z
          · exact absurd (by simp [z]) e
        refine ⟨_, _, rfl, s2, fun j hj => ?_⟩
        by_cases h : j < i
        · exact hz j h
        · have ej : j = i := by omega
          rw [ej, eu, hu]
    · rintro σ H' ⟨v1, v2, rfl, s1, hz⟩
      refine q2 H' (fun x hx => ?_) s1
      obtain ⟨j, hj, rfl⟩ := List.mem_iff_getElem.mp hx
      have z := hz j (by rw [List.length_map]; exact hj)
      rw [List.getElem?_eq_getElem hj] at z
      exact Option.some.inj z
open Lin (flatR flat_len flat_snoc)
def spFlat : Sp := fun vs H Q _ => ∃ (a : Addr) (r : Row), vs = [.ref a] ∧ Rw H a r ∧ r.length ≤ 20 ∧ ∀ t H', Sm H H' → H t = none → Fl H' t (flatR r) → Q (.ref t) H'
theorem ok_flat_of (T : Tx K mg A) : FnOk P w K mg base CX0 1 A.f_flat_of A.d_flat_of ["row"] spFlat := by
  refine T.d_flat_of.F.ok sc_flat_of (fun vs H Q E h => ?_) (fun cdv A outer s H vs Q E hr h => ?_)
  · obtain ⟨a, r, rfl, _⟩ := h
    rfl
  · obtain ⟨a, r, rfl, ⟨xs, ha, hp⟩, hl, q⟩ := h
    refine ⟨_, (pss_one (ps_ret (pe_lc2 (own := [("pair", 1), ("number", 2)]) (vs1 := [2]) (wi1 := (iTup K (tVar 1))) rfl sc_flat_of.nd (pi_tup (pv 0)) (blkOk_by (N := N_flat_of) (sc := defScope s_flat_of) (by decide +kernel)) (by decide) (fun _ _ _ _ _ => (pg_name (i := 1) sc_flat_of.nd rfl (.inl rfl))) (fun _ _ _ _ _ => pts_nil) (fun _ _ _ _ _ => (pi_tup (pv 1))) (fun _ _ _ _ _ => (pg_name (i := 2) sc_flat_of.nd rfl (.inl rfl))) (fun _ _ _ _ _ => pts_nil) (fun _ _ _ _ _ => (pv 2))))), ?_⟩
    refine ⟨.ref a, rfl, a, rfl, ⟨_, SqT.of ha⟩, fun D hD => ⟨fun i m H' => m = xs.length - i ∧ i ≤ xs.length ∧ Sm H H' ∧ H' D = some (.lst ((flatR (r.take i)).map V.int)), ⟨xs.length, by simp, Nat.zero_le _, .new hD, upd_same⟩, ?_⟩⟩
    rintro i m H1 ⟨rfl, hi, s1, eD⟩
    by_cases hlt : i < xs.length
    · refine .inr ⟨⟨xs, xs[i], SqT.of (s1.tup ha), by simp [hlt]⟩, fun H' => Sm H H' ∧ H' D = some (.lst ((flatR (r.take (i + 1))).map V.int)), fun H' h => ⟨xs.length - (i + 1), by omega, rfl, hlt, h.1, h.2⟩, fun x H' y => ?_⟩
      obtain ⟨e, y⟩ := y
      subst e
      obtain ⟨u, eu, b, rfl, hb⟩ := hp.get (y xs (SqT.of (s1.tup ha)))
      have fl : (flatR (r.take i)).length ≤ 40 := by rw [flat_len, List.length_take]; omega
      refine ⟨rfl, .ref b, rfl, b, rfl, ⟨_, SqT.of (s1.tup hb)⟩, fun j k H' => k = 2 - j ∧ j ≤ 2 ∧ Sm H H' ∧ H' D = some (.lst ((flatR (r.take i) ++ [u.1, u.2].take j).map V.int)), ⟨2, rfl, by decide, s1, by simpa using eD⟩, ?_⟩
      rintro j k H2 ⟨rfl, hj, s2, eD2⟩
      by_cases hj2 : j < 2
      · refine .inr ⟨⟨_, (if j = 0 then V.int u.1 else V.int u.2), SqT.of (s2.tup hb), ?_⟩, fun H' => Sm H H' ∧ H' D = some (.lst ((flatR (r.take i) ++ [u.1, u.2].take (j + 1)).map V.int)), fun H' h => ⟨2 - (j + 1), by omega, rfl, by omega, h.1, h.2⟩, fun x H' y => ?_⟩
        · match j, hj2 with
          | 0, _ => rfl
          | 1, _ => rfl
        · obtain ⟨e, y⟩ := y
          subst e
          have y := y _ (SqT.of (s2.tup hb))
          have lz : ((flatR (r.take i) ++ [u.1, u.2].take j).map V.int).length < sizeLine := by
            rw [List.length_map, List.length_append, List.length_take]
            exact small (by simp; omega)
          match j, hj2, y with
          | 0, _, y =>
            cases (Option.some.inj y)
            refine ⟨rfl, .int u.1, rfl, _, eD2, lz, s2.put hD, ?_⟩
            rw [upd_same]
            simp
          | 1, _, y =>
            cases (Option.some.inj y)
            refine ⟨rfl, .int u.2, rfl, _, eD2, lz, s2.put hD, ?_⟩
            rw [upd_same]
            simp
      · have e : j = 2 := by omega
        subst e
        refine .inl ⟨⟨_, SqT.of (s2.tup hb), by simp⟩, s2, ?_⟩
        rw [take_snoc eu, flat_snoc]
        exact eD2
    · have e : i = xs.length := by omega
      subst e
      refine .inl ⟨⟨xs, SqT.of (s1.tup ha), Nat.le_refl _⟩, q D H1 s1 hD ?_⟩
      rw [hp.len, List.take_length] at eD
      exact eD
/-! ### the inverse -/
def pw (p n : Int) : Nat → Int
  | 0 => 1
  | i + 1 => pw p n i * n % p
theorem pw_all : ∀ p ∈ ([2, 3, 5, 7, 11, 13] : List Int), ∀ i ∈ List.range 12, (i : Int) + 1 < p → 0 < pw p (1 + (i : Nat)) (p - 2).toNat ∧ pw p (1 + (i : Nat)) (p - 2).toNat < p ∧ pw p (1 + (i : Nat)) (p - 2).toNat * (1 + (i : Nat)) % p = 1 := by decide +kernel
theorem pw_inv {p n : Int} (hp : p ∈ ([2, 3, 5, 7, 11, 13] : List Int)) (h0 : 0 < n) (h1 : n < p) : 0 < pw p n (p - 2).toNat ∧ pw p n (p - 2).toNat < p ∧ pw p n (p - 2).toNat * n % p = 1 := by
  have p13 : p ≤ 13 := by
    have all : ∀ p ∈ ([2, 3, 5, 7, 11, 13] : List Int), p ≤ 13 := by decide
    exact all p hp
  obtain ⟨j, hj⟩ := Int.eq_ofNat_of_zero_le (show 0 ≤ n - 1 by omega)
  have e : n = 1 + (j : Nat) := by omega
  rw [e]
  exact pw_all p hp j (List.mem_range.mpr (by omega)) (by omega)
def spInv : Sp := fun vs H Q _ => ∃ (p n : Int), vs = [.int p, .int n] ∧ 2 ≤ p ∧ p ≤ 13 ∧ 0 ≤ n ∧ n < p ∧ Q (.int (pw p n (p - 2).toNat)) H
theorem ok_inverse (T : Tx K mg A) : FnOk P w K mg base CX0 1 A.f_inverse A.d_inverse ["p", "number"] spInv := by
  refine T.d_inverse.F.ok sc_inverse (fun vs H Q E h => ?_) (fun cdv A outer s H vs Q E hr h => ?_)
  · obtain ⟨p, n, rfl, _⟩ := h
    rfl
  · obtain ⟨p, n, rfl, h2, h13, h0, hn, q⟩ := h
    refine ⟨_, (pss_cons (ps_set (i := 2) sc_inverse.nd rfl (.inl rfl) pe_int)
        (pss_cons (ps_for PassesOwn.never rfl (pi_range1 (by rfl) T.b_range (pa_cons (pe_op op_sub (pv 0) pe_int) pa_nil)) (pg_name (i := 3) sc_inverse.nd rfl (.inl rfl))
        (pss_one (ps_set (i := 2) sc_inverse.nd rfl (.inl rfl) (pe_op op_mod (pe_op op_mul (pv 2) (pv 1)) (pv 0)))))
        (pss_one (ps_ret (pv 2))))), ?_⟩
    refine ⟨.int p, rfl, p, 2, rfl, rfl, p - 2, rfl, by omega, by omega, for_range (fun i σ H' => ∃ v, σ = [some (.int p), some (.int n), some (.int (pw p n i)), v] ∧ H' = H) ⟨none, rfl, rfl⟩ ?_ ?_⟩
    · rintro i σ H' hi ⟨v, rfl, rfl⟩
      exact ⟨.int (pw p n i), rfl, .int n, rfl, _, n, rfl, rfl, .inr ⟨by omega, by omega⟩, .int p, rfl, _, p, rfl, rfl, (by show 0 < p; omega), _, rfl, rfl⟩
    · rintro σ H' ⟨v, rfl, rfl⟩
      exact ⟨_, rfl, q⟩
/-! ### dicts of leads -/
inductive KvL (H : Hp) : List (Key × V) → List (Nat × List Int) → Prop
  | nil : KvL H [] []
  | cons {q : Nat} {us : List Int} {a : Addr} {kvs : List (Key × V)} {L : List (Nat × List Int)} : Fl H a us → KvL H kvs L → KvL H ((Sum.inl (q : Int), .ref a) :: kvs) ((q, us) :: L)
theorem KvL.len {H : Hp} {kvs : List (Key × V)} {L : List (Nat × List Int)} (h : KvL H kvs L) : kvs.length = L.length := by
  induction h with
  | nil => rfl
  | cons _ _ ih => rw [List.length_cons, List.length_cons, ih]
theorem KvL.keys {H : Hp} {kvs : List (Key × V)} {L : List (Nat × List Int)} (h : KvL H kvs L) : kvs.map (·.1) = (L.map fun x => ((x.1 : Nat) : Int)).map Sum.inl := by
  induction h with
  | nil => rfl
  | cons _ _ ih => rw [List.map_cons, ih]; rfl
theorem KvL.mono {H H' : Hp} {kvs : List (Key × V)} {L : List (Nat × List Int)} (h : KvL H kvs L) (s : ∀ a us, Fl H a us → Fl H' a us) : KvL H' kvs L := by
  induction h with
  | nil => exact .nil
  | cons f _ ih => exact .cons (s _ _ f) ih
theorem KvL.sm {H H' : Hp} {kvs : List (Key × V)} {L : List (Nat × List Int)} (h : KvL H kvs L) (s : Sm H H') : KvL H' kvs L := h.mono fun _ _ f => s.lst f
theorem fl_upd {H : Hp} {a d : Addr} {us : List Int} {kvs : List (Key × V)} {o : HO} (f : Fl H a us) (e : H d = some (.dK kvs)) : Fl (upd H d o) a us := by
  unfold Fl
  rw [upd_ne (ne_of f e (by intro z; cases z))]
  exact f
theorem KvL.upd {H : Hp} {kvs kvs' : List (Key × V)} {L : List (Nat × List Int)} {d : Addr} {o : HO} (h : KvL H kvs L) (e : H d = some (.dK kvs')) : KvL (L2.upd H d o) kvs L := h.mono fun _ _ f => fl_upd f e
theorem KvL.get {H : Hp} {kvs : List (Key × V)} {L : List (Nat × List Int)} (h : KvL H kvs L) : ∀ {i : Nat} {q : Nat} {us : List Int}, L[i]? = some (q, us) → ∃ a, kvs[i]? = some (Sum.inl (q : Int), .ref a) ∧ Fl H a us := by
  induction h with
  | nil => intro i q us e; simp at e
  | cons f _ ih =>
    intro i q us e
    cases i with
    | zero => cases e; exact ⟨_, rfl, f⟩
    | succ i => exact ih (by simpa using e)
theorem KvL.none {H : Hp} {kvs : List (Key × V)} {L : List (Nat × List Int)} (h : KvL H kvs L) {q : Nat} (n : q ∉ L.map (·.1)) : valV kvs (Sum.inl (q : Int)) = none := by
  induction h with
  | nil => rfl
  | @cons q' us a kvs L f h ih =>
    have n1 : q ≠ q' := fun e => n (by simp [e])
    have n2 : q ∉ L.map (·.1) := fun m => n (by simp [m])
    rw [valV_neg (by intro z; cases z; exact n1 rfl)]
    exact ih n2
theorem KvL.val {H : Hp} {kvs : List (Key × V)} {L : List (Nat × List Int)} (h : KvL H kvs L) (nd : (L.map (·.1)).Nodup) {q : Nat} {us : List Int} (m : (q, us) ∈ L) : ∃ a, valV kvs (Sum.inl (q : Int)) = some (.ref a) ∧ Fl H a us := by
  induction h with
  | nil => cases m
  | @cons q' us' a kvs L f h ih =>
    have nd' := List.nodup_cons.mp (by simpa using nd : (q' :: L.map (·.1)).Nodup)
    rcases List.mem_cons.mp m with e | m
    · cases e
      exact ⟨a, valV_pos rfl, f⟩
    · have ne : q ≠ q' := fun e => nd'.1 (by rw [← e]; exact List.mem_map.mpr ⟨_, m, rfl⟩)
      rw [valV_neg (by intro z; cases z; exact ne rfl)]
      exact ih nd'.2 m
theorem KvL.app {H : Hp} {kvs : List (Key × V)} {L : List (Nat × List Int)} (h : KvL H kvs L) {q : Nat} {us : List Int} {a : Addr} (f : Fl H a us) : KvL H (kvs ++ [(Sum.inl (q : Int), .ref a)]) (L ++ [(q, us)]) := by
  induction h with
  | nil => exact .cons f .nil
  | cons g _ ih => exact .cons g ih
theorem KvL.putNew {H : Hp} {kvs : List (Key × V)} {L : List (Nat × List Int)} (h : KvL H kvs L) {q : Nat} {us : List Int} {a : Addr} (n : q ∉ L.map (·.1)) (f : Fl H a us) : KvL H (putK kvs (Sum.inl (q : Int)) (.ref a)) (L ++ [(q, us)]) := by
  unfold putK
  rw [if_neg]
  · exact h.app f
  · rw [valV_any, h.none n]
    simp
theorem mapK_id {kvs : List (Key × V)} {k : Key} {v : V} (h : ∀ x ∈ kvs, x.1 ≠ k) : kvs.map (fun kv => if kv.1 = k then (kv.1, v) else kv) = kvs := by
  conv => rhs; rw [← List.map_id kvs]
  apply List.map_congr_left
  intro x hx
  rw [if_neg (h x hx)]
  rfl
theorem KvL.putOld {H : Hp} {kvs : List (Key × V)} {L : List (Nat × List Int)} (h : KvL H kvs L) (nd : (L.map (·.1)).Nodup) {i q : Nat} {us ws : List Int} {b : Addr} (e : L[i]? = some (q, us)) (f : Fl H b ws) : KvL H (putK kvs (Sum.inl (q : Int)) (.ref b)) (L.set i (q, ws)) := by
  have m : (q, us) ∈ L := List.mem_of_getElem? e
  obtain ⟨a, hv, _⟩ := h.val nd m
  unfold putK
  rw [if_pos (by rw [valV_any, hv]; rfl)]
  clear hv m
  induction h generalizing i with
  | nil => simp at e
  | @cons q' us' a' kvs L f' h ih =>
    have nd' := List.nodup_cons.mp (by simpa using nd : (q' :: L.map (·.1)).Nodup)
    cases i with
    | zero =>
      cases e
      rw [List.map_cons, if_pos rfl, mapK_id]
      · exact .cons f h
      · intro x hx z
        have k : x.1 ∈ kvs.map (·.1) := List.mem_map.mpr ⟨x, hx, rfl⟩
        rw [h.keys, z] at k
        obtain ⟨y, hy, ey⟩ := List.mem_map.mp k
        obtain ⟨w, hw, ew⟩ := List.mem_map.mp hy
        cases ey
        have ew' : w.1 = q := by omega
        exact nd'.1 (by rw [← ew']; exact List.mem_map.mpr ⟨w, hw, rfl⟩)
    | succ i =>
      have e' : L[i]? = some (q, us) := by simpa using e
      have ne : q' ≠ q := fun z => nd'.1 (by rw [z]; exact List.mem_map.mpr ⟨_, List.mem_of_getElem? e', rfl⟩)
      rw [List.map_cons, if_neg (by intro z; cases z; exact ne rfl)]
      exact .cons f' (ih nd'.2 e')
/-! ### a dict that is walked -/
theorem Sm.unlock {H H' : Hp} {d : Addr} {kvs : List (Key × V)} {od : Obj} (e : H d = some (.dK kvs)) (s : Sm (L2.upd H d (.frz od (.dK kvs))) H') : Sm H (L2.upd H' d (.dK kvs)) := by
  refine ⟨fun a o n h => ?_, fun P ⟨ps, h, t⟩ => ?_⟩
  · by_cases z : a = d
    · rw [z] at h ⊢
      rw [e] at h
      cases h
      exact upd_same
    · rw [upd_ne z]
      exact s.kp a o n (by rw [upd_ne z]; exact h)
  · have z : P ≠ d := ne_of h e (by intro z; cases z)
    obtain ⟨qs, h2, t2⟩ := s.tb P ⟨ps, by rw [upd_ne z]; exact h, t⟩
    exact ⟨qs, by rw [upd_ne z]; exact h2, t2⟩
theorem KvL.lock {H : Hp} {kvs kvs' : List (Key × V)} {L : List (Nat × List Int)} {d : Addr} {o : HO} (h : KvL H kvs L) (e : H d = some (.dK kvs')) : KvL (L2.upd H d o) kvs L := h.upd e
def spClear : Sp := fun vs H Q _ => ∃ (p : Int) (n : Nat) (a d : Addr) (k0 : Zm.Kd) (us : List Int) (kvs : List (Key × V)) (L : List (Nat × List Int)), vs = [.int p, .ref a, .ref d] ∧ 0 < p ∧ p ≤ 13 ∧ n ≤ 100 ∧ Fk k0 H a us ∧ us.length = n ∧ Rg p us ∧ H d = some (.dK kvs) ∧ KvL H kvs L ∧
  (L.map (·.1)).Nodup ∧ (∀ x ∈ L, x.2.length = n ∧ x.1 < n) ∧ ∀ t k' H', Sm H H' → Fk k' H' t (clearL p us L) → Q (.ref t) H'
theorem ok_cleared (T : Tx K mg A) : FnOk P w K mg base CX0 2 A.f_cleared A.d_cleared ["p", "flat", "leads"] spClear := by
  have G_lessened : FnOk P w K mg base CX0 1 A.f_lessened A.d_lessened ["p", "flat", "number", "other"] spLess := ok_lessened T
  refine T.d_cleared.F.ok sc_cleared (fun vs H Q E h => ?_) (fun cdv A outer s H vs Q E hr h => ?_)
  · obtain ⟨p, n, a, d, k0, us, kvs, L, rfl, _⟩ := h
    rfl
  · obtain ⟨p, n, a, d, k0, us, kvs, L, rfl, p0, p13, n1, ha, hl, hrg, hd, hk, nd, hL, q⟩ := h
    refine ⟨_, (pss_cons (ps_lock (ps_for PassesOwn.never rfl (pi_keys (pv 2)) (pg_name (i := 3) sc_cleared.nd rfl (.inl rfl))
        (pss_one (ps_set (i := 1) sc_cleared.nd rfl (.inl rfl) (pe_call G_lessened hr (by rfl) T.d_lessened.g T.d_lessened.F.kp T.d_lessened.b .nil pass0 (pa_cons (pv 0) (pa_cons (pv 1) (pa_cons (pe_ix En.ix_kd (pv 1) (pv 3) (fun _ _ => rfl)) (pa_cons (pe_dget (hu_of hr) (pv 2) (pv 3) (fun _ _ => rfl)) pa_nil)))))))))
        (pss_one (ps_ret (pv 1)))), ?_⟩
    refine ⟨d, .dK kvs, hd, trivial, fun od => ?_⟩
    have hk0 := hk.lock (o := .frz od (.dK kvs)) hd
    have ha0 : Fk k0 (upd H d (.frz od (.dK kvs))) a us := At.upd ha hd
    have hn : kvs.length = L.length := hk.len
    refine ⟨.ref d, rfl, d, od, rfl, .inl ⟨kvs, upd_same, for_it walk_keys (fun i σ H' => ∃ t v k', σ = [some (.int p), some (.ref t), some (.ref d), v] ∧ H' d = some (.frz od (.dK kvs)) ∧ Sm (upd H d (.frz od (.dK kvs))) H' ∧ Fk k' H' t (clearL p us (L.take i))) ⟨a, _, k0, rfl, upd_same, .refl _, by simpa [clearL] using ha0⟩ (fun i σ H' _ h => by obtain ⟨_, _, _, _, e, _⟩ := h; exact e) ?_ ?_⟩⟩
    · rintro i x σ H1 H2 hi ⟨t, v, k1, rfl, e1, s1, f1⟩ ⟨rfl, k, u, ek, rfl⟩
      have hi2 : i < L.length := by omega
      obtain ⟨b, eb, fb⟩ := (hk0.sm s1).get (i := i) (q := (L[i]).1) (us := (L[i]).2) (List.getElem?_eq_getElem hi2)
      rw [ek] at eb
      cases eb
      have m := List.getElem_mem hi2
      obtain ⟨ml, mp⟩ := hL _ m
      have cl := Lin.clear_len (p := p) (L.take i) (n := n) (fun x hx => (hL x (List.mem_of_mem_take hx)).1) hl
      have cr := Lin.clear_rg p0 (L.take i) hrg
      have hq : (L[i]).1 < (clearL p us (L.take i)).length := by omega
      have ew : (clearL p us (L.take i))[(L[i]).1]? = some ((clearL p us (L.take i))[(L[i]).1]) := List.getElem?_eq_getElem hq
      have rw_ := cr _ (List.getElem_mem hq)
      obtain ⟨c, ec, fc⟩ := (hk0.sm s1).val nd (q := (L[i]).1) (us := (L[i]).2) m
      refine ⟨.int p, rfl, .ref t, rfl, .ref t, rfl, .int ((L[i]).1 : Nat), rfl, t, k1, _, ((L[i]).1 : Nat), .int ((clearL p us (L.take i))[(L[i]).1]), rfl, rfl, At.sq f1, atI_nat (by rw [List.getElem?_map, ew]; rfl), .ref d, rfl, .int ((L[i]).1 : Nat), rfl, d, .ref c, rfl, .inl ⟨kvs, _, .inr ⟨od, e1⟩, rfl, ec.symm⟩, ?_⟩
      refine ⟨p, _, t, c, k1, _, _, rfl, p0, rw_.1, by omega, f1, fc, by omega, by omega, fun t2 k2 H3 s3 _ f3 => ?_⟩
      refine ⟨t2, _, k2, rfl, s3.kp _ _ (by intro ps z; cases z) e1, s1.trans s3, ?_⟩
      have e2 : L.take (i + 1) = L.take i ++ [L[i]] := by rw [List.take_append_getElem]
      rw [e2, Lin.clear_snoc]
      have e3 : (clearL p us (L.take i)).getD (L[i]).1 0 = (clearL p us (L.take i))[(L[i]).1] := by
        rw [List.getD_eq_getElem?_getD, ew]
        rfl
      rw [e3]
      exact f3
    · rintro σ H1 ⟨t, v, k1, rfl, e1, s1, f1⟩
      have e2 : L.take kvs.length = L := List.take_of_length_le (by omega)
      rw [e2] at f1
      exact ⟨e1, .ref t, rfl, q t k1 _ (s1.unlock hd) (At.updF f1 e1)⟩
/-! ### leads of lists of numbers -/
structure Fls (k0 : Zm.Kd) (H : Hp) (xs : List V) (fs : List (List Int)) : Prop where
  len : xs.length = fs.length
  get : ∀ {i : Nat} {x : V}, xs[i]? = some x → ∃ a f, x = .ref a ∧ fs[i]? = some f ∧ Fk k0 H a f
theorem Fls.sm {k0 : Zm.Kd} {H H' : Hp} {xs : List V} {fs : List (List Int)} (h : Fls k0 H xs fs) (s : Sm H H') : Fls k0 H' xs fs := ⟨h.len, fun e => let ⟨a, f, h1, h2, h3⟩ := h.get e; ⟨a, f, h1, h2, At.sm h3 s⟩⟩
theorem Fls.nil {k0 : Zm.Kd} {H : Hp} : Fls k0 H [] [] := ⟨rfl, fun e => by simp at e⟩
theorem Fls.snoc {k0 : Zm.Kd} {H : Hp} {xs : List V} {fs : List (List Int)} {a : Addr} {f : List Int} (h : Fls k0 H xs fs) (k : Fk k0 H a f) : Fls k0 H (xs ++ [.ref a]) (fs ++ [f]) := by
  refine ⟨by simp [h.len], fun {i x} e => ?_⟩
  by_cases hi : i < xs.length
  · rw [List.getElem?_append_left hi] at e
    rw [List.getElem?_append_left (by rw [← h.len]; exact hi)]
    exact h.get e
  · rw [List.getElem?_append_right (by omega)] at e
    rw [List.getElem?_append_right (by rw [← h.len]; omega), ← h.len]
    cases hk : i - xs.length with
    | zero =>
      rw [hk] at e
      cases e
      exact ⟨a, f, rfl, rfl, k⟩
    | succ m =>
      rw [hk] at e
      simp at e
/-- leads of which the first j are lessened by a new one -/
def uptoL (p : Int) (q : Nat) (l : List Int) (L : List (Nat × List Int)) (j : Nat) : List (Nat × List Int) := moreL p q l (L.take j) ++ L.drop j
theorem upto_zero {p : Int} {q : Nat} {l : List Int} {L : List (Nat × List Int)} : uptoL p q l L 0 = L := by simp [uptoL, moreL]
theorem upto_all {p : Int} {q : Nat} {l : List Int} {L : List (Nat × List Int)} : uptoL p q l L L.length = moreL p q l L := by simp [uptoL]
theorem upto_len {p : Int} {q : Nat} {l : List Int} {L : List (Nat × List Int)} {j : Nat} : (uptoL p q l L j).length = L.length := by simp [uptoL, moreL]; omega
theorem upto_get {p : Int} {q : Nat} {l : List Int} {L : List (Nat × List Int)} {j : Nat} (h : j < L.length) : (uptoL p q l L j)[j]? = some L[j] := by
  unfold uptoL
  rw [List.getElem?_append_right (by simp [moreL]; omega)]
  have e : j - (moreL p q l (L.take j)).length = 0 := by simp [moreL]; omega
  rw [e, List.getElem?_drop]
  simp [h]
theorem upto_set {p : Int} {q : Nat} {l : List Int} {L : List (Nat × List Int)} {j : Nat} (h : j < L.length) : (uptoL p q l L j).set j ((L[j]).1, lessL p (L[j]).2 ((L[j]).2.getD q 0) l) = uptoL p q l L (j + 1) := by
  have lm : (moreL p q l (L.take j)).length = j := by simp [moreL]; omega
  unfold uptoL
  rw [List.set_append_right _ _ (by omega), lm, Nat.sub_self, List.drop_eq_getElem_cons h]
  have e2 : L.take (j + 1) = L.take j ++ [L[j]] := by rw [List.take_append_getElem]
  rw [e2]
  have e3 : moreL p q l (L.take j ++ [L[j]]) = moreL p q l (L.take j) ++ [((L[j]).1, lessL p (L[j]).2 ((L[j]).2.getD q 0) l)] := by
    unfold moreL
    rw [List.map_append]
    rfl
  rw [e3, List.append_assoc]
  rfl
theorem upto_places {p : Int} {q : Nat} {l : List Int} {L : List (Nat × List Int)} {j : Nat} : (uptoL p q l L j).map (·.1) = L.map (·.1) := by
  unfold uptoL
  rw [List.map_append]
  have e : (moreL p q l (L.take j)).map (·.1) = (L.take j).map (·.1) := by
    unfold moreL
    rw [List.map_map]
    rfl
  rw [e, ← List.map_append, List.take_append_drop]
theorem perm_map {α β : Type} {g : α → β} {ys zs : List β} (h : ys.Perm zs) : ∀ {L : List α}, zs = L.map g → ∃ M : List α, M.Perm L ∧ ys = M.map g := by
  induction h with
  | nil =>
    intro L e
    cases L with
    | nil => exact ⟨[], .refl _, rfl⟩
    | cons _ _ => cases e
  | cons x _ ih =>
    intro L e
    cases L with
    | nil => cases e
    | cons y L =>
      obtain ⟨e1, e2⟩ := List.cons.inj e
      obtain ⟨M, m1, m2⟩ := ih e2
      exact ⟨y :: M, m1.cons y, by rw [e1, m2]; rfl⟩
  | swap x y l =>
    intro L e
    match L, e with
    | u :: v :: L, e =>
      obtain ⟨e1, e2⟩ := List.cons.inj e
      obtain ⟨e3, e4⟩ := List.cons.inj e2
      exact ⟨v :: u :: L, .swap u v L, by rw [e1, e3, e4]; rfl⟩
  | trans _ _ ih1 ih2 =>
    intro L e
    obtain ⟨M, m1, m2⟩ := ih2 e
    obtain ⟨N, n1, n2⟩ := ih1 m2
    exact ⟨N, n1.trans m1, n2⟩
theorem up_of {L : List (Nat × List Int)} (s : (L.map fun x => ((x.1 : Nat) : Int)).Pairwise (· ≤ ·)) (nd : (L.map (·.1)).Nodup) : Up L := by
  unfold Up
  rw [List.pairwise_map] at s ⊢
  have n2 : L.Pairwise fun a b => a.1 ≠ b.1 := by
    have := nd
    unfold List.Nodup at this
    rw [List.pairwise_map] at this
    exact this
  exact (s.and n2).imp fun {a b} h => by omega
def spLeads : Sp := fun vs H Q _ => ∃ (p : Int) (n : Nat) (a : Addr) (k0 : Zm.Kd) (xs : List V) (fs : List (List Int)), vs = [.int p, .ref a] ∧ p ∈ ([2, 3, 5, 7, 11, 13] : List Int) ∧ n < 64 ∧ H a = some (.lst xs) ∧ Fls k0 H xs fs ∧ xs.length ≤ 1000 ∧ (∀ f ∈ fs, f.length = n ∧ Rg p f) ∧
  ∀ (d : Addr) (kvs : List (Key × V)) (L : List (Nat × List Int)) (H' : Hp), Sm H H' → H' d = some (.dK kvs) → KvL H' kvs L → PL p n fs L → Up L → Q (.ref d) H'
theorem below_len : ∀ (n : Nat) (xs : List Nat), xs.Nodup → (∀ x ∈ xs, x < n) → xs.length ≤ n
  | 0, [], _, _ => Nat.le_refl _
  | 0, x :: _, _, h => absurd (h x (by simp)) (Nat.not_lt_zero _)
  | n + 1, xs, nd, h => by
    have k := below_len n (xs.erase n) (nd.erase n) fun x hx => by
      have m := (nd.mem_erase_iff).mp hx
      have := h x m.2
      omega
    by_cases hn : n ∈ xs
    · rw [List.length_erase_of_mem hn] at k
      omega
    · rw [List.erase_of_not_mem hn] at k
      omega
theorem pl_le {p : Int} {n : Nat} {fs : List (List Int)} {L : List (Nat × List Int)} (h : PL p n fs L) : L.length ≤ n := by
  have k := below_len n (L.map (·.1)) h.nd fun x hx => by
    obtain ⟨y, hy, rfl⟩ := List.mem_map.mp hx
    exact h.plc y hy
  simpa using k
theorem ok_leads_of (T : Tx K mg A) : FnOk P w K mg base CX0 3 A.f_leads_of A.d_leads_of ["p", "flats"] spLeads := by
  have G_lessened : FnOk P w K mg base CX0 1 A.f_lessened A.d_lessened ["p", "flat", "number", "other"] spLess := ok_lessened T
  have G_cleared : FnOk P w K mg base CX0 2 A.f_cleared A.d_cleared ["p", "flat", "leads"] spClear := ok_cleared T
  have G_first_place : FnOk P w K mg base CX0 1 A.f_first_place A.d_first_place ["flat"] spFirst := ok_first_place T
  have G_inverse : FnOk P w K mg base CX0 1 A.f_inverse A.d_inverse ["p", "number"] spInv := ok_inverse T
  refine T.d_leads_of.F.ok sc_leads_of (fun vs H Q E h => ?_) (fun cdv A outer s H vs Q E hr h => ?_)
  · obtain ⟨p, n, a, k0, xs, fs, rfl, _⟩ := h
    rfl
  · obtain ⟨p, n, a, k0, xs, fs, rfl, hp, n64, ha, hfs, hxl, hf, q⟩ := h
    have pall : ∀ p ∈ ([2, 3, 5, 7, 11, 13] : List Int), 2 ≤ p ∧ p ≤ 13 := by decide
    obtain ⟨p2, p13⟩ := pall p hp
    have p0 : 0 < p := by omega
    refine ⟨_, (pss_cons (ps_set (i := 2) sc_leads_of.nd rfl (.inr rfl) pe_dnewK)
        (pss_cons (ps_for PassesOwn.never rfl (pi_list (pv 1)) (pg_name (i := 3) sc_leads_of.nd rfl (.inl rfl))
        (pss_cons (ps_set (i := 4) sc_leads_of.nd rfl (.inl rfl) (pe_call G_cleared hr (by rfl) T.d_cleared.g T.d_cleared.F.kp T.d_cleared.b .nil pass0 (pa_cons (pv 0) (pa_cons (pv 3) (pa_cons (pv 2) pa_nil)))))
        (pss_cons (ps_set (i := 5) sc_leads_of.nd rfl (.inl rfl) (pe_call G_first_place (hr.mono (by decide)) (by rfl) T.d_first_place.g T.d_first_place.F.kp T.d_first_place.b .nil pass0 (pa_cons (pv 4) pa_nil)))
        (pss_one (ps_if (pt_cmpR op_notN (pv 5) pe_non (nomark _))
        (pss_cons (ps_set (i := 6) sc_leads_of.nd rfl (.inr rfl) (pe_call G_inverse (hr.mono (by decide)) (by rfl) T.d_inverse.g T.d_inverse.F.kp T.d_inverse.b .nil pass0 (pa_cons (pv 0) (pa_cons (pe_ix En.ix_kd (pv 4) (pv 5) (fun _ _ => rfl)) pa_nil))))
        (pss_cons (ps_setLc (i := 7) (own := [("number", 9)]) rfl sc_leads_of.nd rfl rfl (sw_true rfl rfl rfl (by decide +kernel)) (Zm.pi_kd (pv 4)) (blkOk_by (N := N_leads_of) (sc := defScope s_leads_of) (by decide +kernel)) (fun _ _ _ _ _ => (pg_name (i := 9) sc_leads_of.nd rfl (.inl rfl))) (fun _ _ _ _ _ => pts_nil) (fun _ _ _ _ _ => (pe_op op_mod (pe_op op_mul (pv 6) (pv 9)) (pv 0))))
        (pss_cons (ps_for PassesOwn.never rfl (pi_list (pe_callTy (call_list_dK rfl) (by rfl) T.b_list PyProof.Rows.boot_list (pa_cons (pv 2) pa_nil))) (pg_name (i := 8) sc_leads_of.nd rfl (.inl rfl))
        (pss_one (ps_asg (pe_call G_lessened (hr.mono (by decide)) (by rfl) T.d_lessened.g T.d_lessened.F.kp T.d_lessened.b .nil pass0 (pa_cons (pv 0) (pa_cons (pe_dget (hu_of hr) (pv 2) (pv 8) (fun _ _ => rfl)) (pa_cons (pe_ix ix_list (pe_dget (hu_of hr) (pv 2) (pv 8) (fun _ _ => rfl)) (pv 5) (fun _ _ => rfl)) (pa_cons (pv 7) pa_nil))))) (pg_sub (pv 2) (pv 8) (set_dict (hu_of hr))))))
        (pss_one (ps_asg (pv 7) (pg_sub (pv 2) (pv 5) (set_dict (hu_of hr))))))))
        pss_nil)))))
        (pss_one (ps_ret (pe_dc (own := [("place", 8)]) rfl sc_leads_of.nd (pi_list (pe_callB (call_sortedDI rfl) (by rfl) T.b_sorted PyProof.Rows.boot_sorted (pa_cons (pv 2) pa_nil))) (blkOk_by (N := N_leads_of) (sc := defScope s_leads_of) (by decide +kernel)) (fun _ _ _ _ _ => (pg_name (i := 8) sc_leads_of.nd rfl (.inl rfl))) (fun _ _ _ _ _ => pts_nil) (fun _ _ _ _ _ => (pv 8)) (fun _ _ _ _ _ => (pe_dget (hu_of hr) (pv 2) (pv 8) (fun _ _ => rfl)))))))), ?_⟩
    refine fun d hd => ⟨.ref a, rfl, a, rfl, ⟨_, SqL.of ((Sm.new hd).lst ha)⟩, for_it walk_list (fun i σ H' => ∃ v3 v4 v5 v6 v7 v8 v9, σ = [some (.int p), some (.ref a), some (.ref d), v3, v4, v5, v6, v7, v8, v9] ∧ Sm H H' ∧ ∃ kvs L, H' d = some (.dK kvs) ∧ KvL H' kvs L ∧ PL p n (fs.take i) L)
      ⟨_, _, _, _, _, _, _, rfl, .new hd, [], [], upd_same, .nil, by simpa using PL.nil⟩ (fun i σ H' _ h => by obtain ⟨_, _, _, _, _, _, _, _, s, _⟩ := h; exact SqL.of (s.lst ha)) ?_ ?_⟩
    · rintro i x σ H1 H2 hi ⟨v3, v4, v5, v6, v7, v8, v9, rfl, s1, kvs, L, ed, kv, pl⟩ ⟨rfl, hx⟩
      obtain ⟨f, us, rfl, ef, ff⟩ := (hfs.sm s1).get hx
      obtain ⟨ul, ur⟩ := hf us (List.mem_of_getElem? ef)
      have et : fs.take (i + 1) = fs.take i ++ [us] := take_snoc ef
      have cl := Lin.clear_len (p := p) L pl.len ul
      have cr := Lin.clear_rg p0 L ur
      refine ⟨.int p, rfl, .ref f, rfl, .ref d, rfl, p, n, f, d, k0, us, kvs, L, rfl, p0, p13, by omega, ff, ul, ur, ed, kv, pl.nd, fun x hx => ⟨pl.len x hx, pl.plc x hx⟩, fun t k1 H3 s3 ft => ?_⟩
      have s13 := s1.trans s3
      have ed3 : H3 d = some (.dK kvs) := s3.kp _ _ (by intro ps z; cases z) ed
      refine ⟨.ref t, rfl, t, k1, _, rfl, ft, by omega, fun j u H4 eu u0 ah s4 => ?_, fun H4 z s4 => ?_⟩
      · have ur2 := cr u (List.mem_of_getElem? eu)
        have hj : j < n := by
          have := (List.getElem?_eq_some_iff.mp eu).1
          omega
        obtain ⟨c0, c1, ci⟩ := pw_inv (n := u) hp (by omega) ur2.2
        have ft4 : Fk k1 H4 t (clearL p us L) := At.sm ft s4
        have ed4 : H4 d = some (.dK kvs) := s4.kp _ _ (by intro ps z; cases z) ed3
        have kv4 : KvL H4 kvs L := (kv.sm s3).sm s4
        have s14 := s13.trans s4
        refine ⟨.int (j : Nat), rfl, rfl, _, rfl, ite2 (fun _ => ?_) (fun e => absurd (by simp) e)⟩
        -- the new lead
        refine ⟨.int p, rfl, .ref t, rfl, .int (j : Nat), rfl, t, k1, _, (j : Nat), .int u, rfl, rfl, At.sq ft4, atI_nat (by rw [List.getElem?_map, eu]; rfl), p, u, rfl, p2, p13, ur2.1, ur2.2, ?_⟩
        generalize hc : pw p u (p - 2).toNat = c at c0 c1 ci ⊢
        refine ⟨.ref t, rfl, t, k1, _, rfl, At.sq ft4, fun ld hld => lc_it Zm.walkq (fun k H' => Sm H4 H' ∧ Fl H' ld ((scaled p c (clearL p us L)).take k)) ⟨.new hld, by simpa [Fl] using upd_same⟩ (fun k H' _ h => (At.sm ft4 h.1).sq) ?_ ?_⟩
        · rintro k y H5 H6 hk ⟨s5, f5⟩ ⟨rfl, hy⟩
          rw [List.getElem?_map] at hy
          obtain ⟨w, ew, rfl⟩ := Option.map_eq_some_iff.mp hy
          have e2 : (scaled p c (clearL p us L))[k]? = some (c * w % p) := by
            unfold scaled
            rw [List.getElem?_map, ew]
            rfl
          refine ⟨rfl, .int c, rfl, .int w, rfl, c, w, rfl, rfl, cmul ⟨by omega, by omega⟩, .int p, rfl, _, p, rfl, rfl, p0, _, f5, ?_, s5.put hld, ?_⟩
          · rw [List.length_map, List.length_take]
            rw [List.length_map] at hk
            exact small (by omega)
          · unfold Fl
            rw [upd_same, take_snoc e2, List.map_append]
            rfl
        · rintro H5 ⟨s5, f5⟩
          rw [List.length_map, List.take_of_length_le (by unfold scaled; rw [List.length_map]; exact Nat.le_refl _)] at f5
          have ed5 : H5 d = some (.dK kvs) := s5.kp _ _ (by intro ps z; cases z) ed4
          have kv5 := kv4.sm s5
          have s15 := s14.trans s5
          have pls := pl.step (by omega) ul ur eu u0 ah ci
          have sl : (scaled p c (clearL p us L)).length = n := by
            unfold scaled
            rw [List.length_map]
            exact cl
          have lle := pl_le pl
          -- the others are lessened
          refine ⟨.ref d, rfl, d, kvs, rfl, ed5, fun KL hKL => ?_⟩
          have sK : Sm H5 (upd H5 KL (.lst (kvs.map fun kv => kV kv.1))) := .new hKL
          refine ⟨KL, rfl, ⟨_, SqL.of upd_same⟩, for_it walk_list (fun m σ H' => ∃ v8, σ = [some (.int p), some (.ref a), some (.ref d), some (.ref f), some (.ref t), some (.int (j : Nat)), some (.int c), some (.ref ld), v8, v9] ∧ Sm H H' ∧ Fl H' ld (scaled p c (clearL p us L)) ∧ H' KL = some (.lst (kvs.map fun kv => kV kv.1)) ∧ ∃ kvs', H' d = some (.dK kvs') ∧ KvL H' kvs' (uptoL p j (scaled p c (clearL p us L)) L m))
            ⟨_, rfl, s15.trans sK, sK.lst f5, upd_same, kvs, sK.kp _ _ (by intro ps z; cases z) ed5, by rw [upto_zero]; exact kv5.sm sK⟩ (fun m σ H' _ h => by obtain ⟨_, _, _, _, e, _⟩ := h; exact SqL.of e) ?_ ?_⟩
          · rintro m y σ H6 H7 hm ⟨v8, rfl, s6, f6, eK, kvs', ed6, kv6⟩ ⟨rfl, hy⟩
            rw [List.length_map] at hm
            have hm2 : m < L.length := by rw [← kv.len]; exact hm
            obtain ⟨b0, eb0, _⟩ := kv.get (i := m) (q := (L[m]).1) (us := (L[m]).2) (List.getElem?_eq_getElem hm2)
            rw [List.getElem?_map, eb0] at hy
            cases hy
            have nd6 : ((uptoL p j (scaled p c (clearL p us L)) L m).map (·.1)).Nodup := by
              rw [upto_places]
              exact pl.nd
            have eg := upto_get (p := p) (q := j) (l := scaled p c (clearL p us L)) hm2
            obtain ⟨b, eb, fb⟩ := kv6.val nd6 (q := (L[m]).1) (us := (L[m]).2) (List.mem_of_getElem? eg)
            have mm := List.getElem_mem hm2
            have bl := pl.len _ mm
            have bj : j < (L[m]).2.length := by omega
            have ew : (L[m]).2[j]? = some ((L[m]).2[j]) := List.getElem?_eq_getElem bj
            have rw_ := pl.rg _ mm _ (List.getElem_mem bj)
            refine ⟨.int p, rfl, .ref d, rfl, .int ((L[m]).1 : Nat), rfl, d, .ref b, rfl, .inl ⟨kvs', _, .inl ed6, rfl, eb.symm⟩, .ref d, rfl, .int ((L[m]).1 : Nat), rfl, d, .ref b, rfl, .inl ⟨kvs', _, .inl ed6, rfl, eb.symm⟩, .int (j : Nat), rfl, b, _, (j : Nat), .int ((L[m]).2[j]), rfl, rfl, SqL.of fb, atI_nat (by rw [List.getElem?_map, ew]; rfl), .ref ld, rfl, ?_⟩
            refine ⟨p, _, b, ld, .l, _, _, rfl, p0, rw_.1, by omega, fb, f6, by omega, by omega, fun t2 k8 H8 s8 hk8 f8 => ?_⟩
            have e8 : k8 = .l := hk8 rfl
            subst e8
            have ed8 : H8 d = some (.dK kvs') := s8.kp _ _ (by intro ps z; cases z) ed6
            have kv8 := kv6.sm s8
            have l8 := kv8.len
            rw [upto_len] at l8
            refine ⟨.ref d, rfl, .int ((L[m]).1 : Nat), rfl, d, _, rfl, DPut.k (k := Sum.inl ((L[m]).1 : Nat)) ed8 (small (by omega)), ?_⟩
            refine ⟨_, rfl, (s6.trans s8).put hd, fl_upd (s8.lst f6) ed8, ?_, _, upd_same, ?_⟩
            · rw [upd_ne (ne_of (s8.lst eK) ed8 (by intro z; cases z))]
              exact s8.lst eK
            · rw [← upto_set hm2]
              have e3 : (L[m]).2.getD j 0 = (L[m]).2[j] := by
                rw [List.getD_eq_getElem?_getD, ew]
                rfl
              rw [e3]
              exact (kv8.putOld nd6 eg f8).upd ed8
          · rintro σ H6 ⟨v8, rfl, s6, f6, eK, kvs', ed6, kv6⟩
            rw [List.length_map, kv.len, upto_all] at kv6
            have nq : j ∉ (moreL p j (scaled p c (clearL p us L)) L).map (·.1) := by
              have z := pls.nd
              rw [List.map_append] at z
              intro m
              exact (List.nodup_append.mp z).2.2 j m j (by simp) rfl
            have l6 := kv6.len
            have l7 : (moreL p j (scaled p c (clearL p us L)) L).length = L.length := by simp [moreL]
            refine ⟨.ref ld, rfl, .ref d, rfl, .int (j : Nat), rfl, d, _, rfl, DPut.k (k := Sum.inl (j : Nat)) ed6 (small (by omega)), ?_⟩
            refine ⟨_, _, _, _, _, _, _, rfl, s6.put hd, _, _, upd_same, (kv6.putNew nq f6).upd ed6, ?_⟩
            rw [et]
            exact pls
      · refine ⟨.non, rfl, rfl, _, rfl, ite2 (fun e => absurd e (by simp)) (fun _ => ?_)⟩
        refine ⟨_, _, _, _, _, _, _, rfl, s13.trans s4, kvs, L, s4.kp _ _ (by intro ps z; cases z) ed3, (kv.sm s3).sm s4, ?_⟩
        rw [et]
        exact pl.skip p0 ul ur z
    · rintro σ H1 ⟨v3, v4, v5, v6, v7, v8, v9, rfl, s1, kvs, L, ed, kv, pl⟩
      have ef : fs.take xs.length = fs := List.take_of_length_le (by rw [hfs.len]; exact Nat.le_refl _)
      rw [ef] at pl
      have lle := pl_le pl
      refine ⟨.ref d, rfl, d, kvs, _, rfl, .inl ed, kv.keys, by rw [List.length_map]; omega, fun ys KL pm srt hKL => ?_⟩
      obtain ⟨M, pM, rfl⟩ := perm_map pm rfl
      have plM := pl.perm pM.symm
      have upM := up_of srt plM.nd
      have sK : Sm H1 (upd H1 KL (.lst ((M.map fun x => ((x.1 : Nat) : Int)).map V.int))) := .new hKL
      have edK := sK.kp _ _ (by intro ps z; cases z) ed
      have kvK := kv.sm sK
      have eK : upd H1 KL (.lst ((M.map fun x => ((x.1 : Nat) : Int)).map V.int)) KL = some (.lst ((M.map fun x => ((x.1 : Nat) : Int)).map V.int)) := upd_same
      generalize upd H1 KL (.lst ((M.map fun x => ((x.1 : Nat) : Int)).map V.int)) = H2 at sK edK kvK eK ⊢
      have s2 := s1.trans sK
      refine ⟨KL, rfl, ⟨_, SqL.of eK⟩, fun D hD => Zm.dc_it walk_list (fun i H' => Sm H2 H' ∧ ∃ kvs', H' D = some (.dK kvs') ∧ KvL H' kvs' (M.take i)) ⟨.new hD, [], upd_same, by simpa using KvL.nil⟩ (fun i H' _ h => SqL.of (h.1.lst eK)) ?_ ?_⟩
      · rintro i x H3 H4 hi ⟨s3, kvs', eD, kvD⟩ ⟨rfl, hx⟩
        rw [List.length_map, List.length_map] at hi
        rw [List.getElem?_map, List.getElem?_map, List.getElem?_eq_getElem hi] at hx
        cases hx
        have m1 := List.getElem_mem hi
        obtain ⟨b, eb, fb⟩ := (kvK.sm s3).val pl.nd (q := (M[i]).1) (us := (M[i]).2) (pM.mem_iff.mp m1)
        have l3 := kvD.len
        rw [List.length_take] at l3
        have llm := pl_le plM
        refine ⟨rfl, .int ((M[i]).1 : Nat), rfl, .ref d, rfl, .int ((M[i]).1 : Nat), rfl, d, .ref b, rfl, .inl ⟨kvs, _, .inl (s3.kp _ _ (by intro ps z; cases z) edK), rfl, eb.symm⟩, kvs', Sum.inl ((M[i]).1 : Nat), rfl, eD, small (by omega), s3.put hD, _, upd_same, ?_⟩
        have e2 : M.take (i + 1) = M.take i ++ [M[i]] := by rw [List.take_append_getElem]
        rw [e2]
        refine (kvD.putNew ?_ fb).upd eD
        intro mm
        obtain ⟨y, hy, ey⟩ := List.mem_map.mp mm
        have z := upM
        unfold Up at z
        rw [← List.take_append_drop i M, List.map_append, List.pairwise_append] at z
        have z2 := z.2.2 y.1 (List.mem_map.mpr ⟨y, hy, rfl⟩) (M[i]).1 (List.mem_map.mpr ⟨M[i], List.mem_of_getElem? (i := 0) (by rw [List.getElem?_drop]; simp [hi]), rfl⟩)
        omega
      · rintro H3 ⟨s3, kvs', eD, kvD⟩
        rw [List.length_map, List.length_map, List.take_length] at kvD
        exact q D kvs' M H3 (s2.trans s3) eD kvD plM upM
/-! ### leads of rows -/
structure Rws (p : Int) (n : Nat) (H : Hp) (xs : List V) (rs : List Row) : Prop where
  len : xs.length = rs.length
  get : ∀ {i : Nat} {x : V}, xs[i]? = some x → ∃ a r, x = .ref a ∧ rs[i]? = some r ∧ Rw H a r
  fit : ∀ r ∈ rs, In p r ∧ r.length = n
theorem Rws.sm {p : Int} {n : Nat} {H H' : Hp} {xs : List V} {rs : List Row} (h : Rws p n H xs rs) (s : Sm H H') : Rws p n H' xs rs := ⟨h.len, fun e => let ⟨a, r, h1, h2, h3⟩ := h.get e; ⟨a, r, h1, h2, h3.sm s⟩, h.fit⟩
theorem flat_rg {p : Int} {r : Row} (h : In p r) : Rg p (flatR r) := by
  intro u hu
  obtain ⟨v, hv, hm⟩ := List.mem_flatMap.mp hu
  have := h v hv
  have m : u = v.1 ∨ u = v.2 := by simpa using hm
  rcases m with e | e
  · rw [e]; exact this.1
  · rw [e]; exact this.2
def spRowLeads : Sp := fun vs H Q _ => ∃ (p : Int) (n : Nat) (a : Addr) (k : Zm.Kd) (xs : List V) (rs : List Row), vs = [.int p, .ref a] ∧ p ∈ ([2, 3, 5, 7, 11, 13] : List Int) ∧ n ≤ 20 ∧ At k H a xs ∧ Rws p n H xs rs ∧ xs.length ≤ 200 ∧
  ∀ (d : Addr) (kvs : List (Key × V)) (L : List (Nat × List Int)) (H' : Hp), Sm H H' → H' d = some (.dK kvs) → KvL H' kvs L → PL p (2 * n) (rs.map flatR) L → Up L → Q (.ref d) H'
theorem ok_row_leads (T : Tx K mg A) : FnOk P w K mg base CX0 4 A.f_row_leads A.d_row_leads ["p", "rows"] spRowLeads := by
  have G_leads_of : FnOk P w K mg base CX0 3 A.f_leads_of A.d_leads_of ["p", "flats"] spLeads := ok_leads_of T
  have G_flat_of : FnOk P w K mg base CX0 1 A.f_flat_of A.d_flat_of ["row"] spFlat := ok_flat_of T
  refine T.d_row_leads.F.ok sc_row_leads (fun vs H Q E h => ?_) (fun cdv A outer s H vs Q E hr h => ?_)
  · obtain ⟨p, n, a, k, xs, rs, rfl, _⟩ := h
    rfl
  · obtain ⟨p, n, a, k, xs, rs, rfl, hp, n20, ha, hrs, hl, q⟩ := h
    refine ⟨_, (pss_one (ps_ret (pe_call G_leads_of hr (by rfl) T.d_leads_of.g T.d_leads_of.F.kp T.d_leads_of.b .nil pass0 (pa_cons (pv 0) (pa_cons (pe_lc (own := [("row", 2)]) rfl sc_row_leads.nd (Zm.pi_kd (pv 1)) (blkOk_by (N := N_row_leads) (sc := defScope s_row_leads) (by decide +kernel)) (fun _ _ _ _ _ => (pg_name (i := 2) sc_row_leads.nd rfl (.inl rfl))) (fun _ _ _ _ _ => pts_nil) (fun _ _ _ _ _ => (pe_call G_flat_of (hr.mono (by decide)) (by rfl) T.d_flat_of.g T.d_flat_of.F.kp T.d_flat_of.b .nil pass0 (pa_cons (pv 2) pa_nil)))) pa_nil))))), ?_⟩
    refine ⟨.int p, rfl, .ref a, rfl, a, k, xs, rfl, ha.sq, fun D hD => lc_it Zm.walkq (fun i H' => Sm H H' ∧ ∃ ys, H' D = some (.lst ys) ∧ V.ref D ∉ ys ∧ Fls .l H' ys ((rs.map flatR).take i)) ⟨.new hD, [], upd_same, by simp, by simpa using Fls.nil⟩ (fun i H' _ h => (ha.sm h.1).sq) ?_ ?_⟩
    · rintro i x H1 H2 hi ⟨s1, ys, eD, nD, fy⟩ ⟨rfl, hx⟩
      obtain ⟨b, r, rfl, er, wr⟩ := hrs.get hx
      obtain ⟨_, rl⟩ := hrs.fit r (List.mem_of_getElem? er)
      refine ⟨rfl, .ref b, rfl, b, r, rfl, wr.sm s1, by omega, fun t H3 s3 ht f3 => ?_⟩
      have neD : D ≠ t := ne_of_none eD ht
      have eD3 := s3.lst eD
      have ly := fy.len
      rw [List.length_take, List.length_map] at ly
      refine ⟨ys, eD3, small (by omega), (s1.trans s3).put hD, ys ++ [.ref t], upd_same, ?_, ?_⟩
      · intro m
        rcases List.mem_append.mp m with m | m
        · exact nD m
        · have e : V.ref D = V.ref t := List.mem_singleton.mp m
          cases e
          exact neD rfl
      have e2 : (rs.map flatR)[i]? = some (flatR r) := by rw [List.getElem?_map, er]; rfl
      rw [take_snoc e2]
      have z := (fy.sm s3).snoc f3
      refine ⟨z.len, fun e => ?_⟩
      obtain ⟨c, g, h1, h2, h3⟩ := z.get e
      refine ⟨c, g, h1, h2, ?_⟩
      show L2.upd H3 D _ c = _
      rw [upd_ne]
      · exact h3
      · intro z
        have m := List.mem_of_getElem? e
        rw [h1, z] at m
        rcases List.mem_append.mp m with m | m
        · exact nD m
        · have e : V.ref D = V.ref t := List.mem_singleton.mp m
          cases e
          exact neD rfl
    · rintro H1 ⟨s1, ys, eD, _, fy⟩
      have e2 : (rs.map flatR).take xs.length = rs.map flatR := List.take_of_length_le (by rw [List.length_map, hrs.len]; exact Nat.le_refl _)
      rw [e2] at fy
      refine ⟨p, 2 * n, D, .l, ys, _, rfl, hp, by omega, eD, fy, ?_, ?_, fun d kvs L H2 s2 ed kv pl up => q d kvs L H2 (s1.trans s2) ed kv pl up⟩
      · rw [fy.len, List.length_map, ← hrs.len]
        omega
      · intro f hf
        obtain ⟨r, hr2, rfl⟩ := List.mem_map.mp hf
        obtain ⟨h1, h2⟩ := hrs.fit r hr2
        exact ⟨by rw [flat_len, h2], flat_rg h1⟩
/-! ### the law's rows -/
theorem same_put {H H1 : Hp} {L : Addr} {o : HO} (s : Same H H1) (h : H L = none) : Same H (upd H1 L o) := fun b u e => by
  rw [upd_ne (ne_of_none e h)]
  exact s _ _ e
theorem Prs.same {H H1 : Hp} {xs : List V} {r : Row} (h : Prs H xs r) (s : Same H H1) : Prs H1 xs r := h.sm (.of_same s)
theorem in_addR {p : Int} (h : 0 < p) : ∀ r s : Row, In p (addR p r s)
  | [], _ => fun u hu => by simp [addR] at hu
  | _ :: _, [] => fun u hu => by simp [addR] at hu
  | v :: r, w :: s => fun u hu => by
    have e : addR p (v :: r) (w :: s) = ((v.1 + w.1) % p, (v.2 + w.2) % p) :: addR p r s := rfl
    rw [e] at hu
    rcases List.mem_cons.mp hu with rfl | hu
    · exact ⟨⟨Int.emod_nonneg _ (by omega), Int.emod_lt_of_pos _ h⟩, Int.emod_nonneg _ (by omega), Int.emod_lt_of_pos _ h⟩
    · exact in_addR h r s u hu
theorem in_timR {p n : Int} (h : 0 < p) (r : Row) : In p (timR p n r) := fun u hu => by
  obtain ⟨v, _, rfl⟩ := List.mem_map.mp hu
  exact ⟨⟨Int.emod_nonneg _ (by omega), Int.emod_lt_of_pos _ h⟩, Int.emod_nonneg _ (by omega), Int.emod_lt_of_pos _ h⟩
theorem in_noR {p : Int} (h : 0 < p) (m : Nat) : In p (noR m) := fun u hu => by
  rw [(List.mem_replicate.mp hu).2]
  exact ⟨⟨by decide, h⟩, by decide, h⟩
def spLTim : Sp := fun vs H Q _ => ∃ (p n : Int) (m : Nat) (a : Addr) (r : Row), vs = [.int p, .int n, .ref a] ∧ 0 < p ∧ p ≤ 13 ∧ 0 ≤ n ∧ n < 13 ∧ m ≤ 20 ∧ Rk p m H a r ∧ ∀ t H', Same H H' → Rk p m H' t (timR p n r) → Q (.ref t) H'
theorem ok__law_times (T : Tx K mg A) : FnOk P w K mg base CX0 1 A.f__law_times A.d__law_times ["_law_p", "_law_number", "_law_row"] spLTim := by
  refine T.d__law_times.F.ok sc__law_times (fun vs H Q E h => ?_) (fun cdv A outer s H vs Q E hr h => ?_)
  · obtain ⟨p, n, m, a, r, rfl, _⟩ := h
    rfl
  · obtain ⟨p, n, m, a, r, rfl, p0, p13, n0, n1, hm, hk, q⟩ := h
    obtain ⟨⟨xs, ha, hp⟩, _, hl⟩ := hk
    have hxl := hp.len
    refine ⟨_, (pss_one (ps_ret (pe_callTy call_tuple_of (by rfl) T.b_tuple PyProof.Rows.boot_tuple (pa_cons (pe_lc (own := [("_law_x", 3), ("_law_y", 4)]) (g := (gTup K 2 (gCons (gName 3) (gCons (gName 4) gNil)))) rfl sc__law_times.nd (pi_tup (pv 2)) (blkOk_by (N := N__law_times) (sc := defScope s__law_times) (by decide +kernel)) (fun _ _ _ _ _ => (pg_tup rfl (pgs_cons (pg_name (i := 3) sc__law_times.nd rfl (.inl rfl)) (pgs_cons (pg_name (i := 4) sc__law_times.nd rfl (.inl rfl)) pgs_nil)))) (fun _ _ _ _ _ => pts_nil) (fun _ _ _ _ _ => (pe_tup (pa_cons (pe_op op_mod (pe_op op_mul (pv 1) (pv 3)) (pv 0)) (pa_cons (pe_op op_mod (pe_op op_mul (pv 1) (pv 4)) (pv 0)) pa_nil))))) pa_nil)))), ?_⟩
    refine ⟨.ref a, rfl, a, rfl, ⟨_, SqT.of ha⟩, fun L hL => lc_it (σ := [some (.int p), some (.int n), some (.ref a), none, none]) (vs := [3, 4]) (walk_tup (xs := xs)) (fun i H' => Same H H' ∧ ∃ zs, H' L = some (.lst zs) ∧ Prs H' zs ((timR p n r).take i)) ⟨same_upd hL, [], upd_same, by simpa using Prs.nil⟩ (fun i H' _ h => SqT.of (h.1 _ _ ha)) ?_ ?_⟩
    · rintro i x H1 H2 hi ⟨s1, zs, eL, hz⟩ ⟨rfl, hx⟩
      obtain ⟨u, eu, b, rfl, hb⟩ := hp.get hx
      have e2 : (timR p n r)[i]? = some (n * u.1 % p, n * u.2 % p) := by
        unfold timR
        rw [List.getElem?_map, eu]
        rfl
      have hzl := hz.len
      rw [List.length_take] at hzl
      refine ⟨b, [.int u.1, .int u.2], rfl, SqT.of (s1 _ _ hb), rfl, .int u.1, [.int u.2], rfl, .int u.2, [], rfl, rfl, ?_⟩
      dsimp only [wipe, List.set]
      refine ⟨rfl, .int n, rfl, .int u.1, rfl, n, u.1, rfl, rfl, cmul ⟨n0, n1⟩, .int p, rfl, _, p, rfl, rfl, p0, .int n, rfl, .int u.2, rfl, n, u.2, rfl, rfl, cmul ⟨n0, n1⟩, .int p, rfl, _, p, rfl, rfl, p0, (by show 2 ≤ sizeLine; decide), fun t ht => ?_⟩
      have nL : L ≠ t := ne_of_none eL ht
      have eL2 : upd H2 t (.tup [.int (n * u.1 % p), .int (n * u.2 % p)]) L = some (.lst zs) := by
        rw [upd_ne nL]
        exact eL
      refine ⟨zs, eL2, small (by omega), same_put (s1.trans (same_upd ht)) hL, _, upd_same, ?_⟩
      rw [take_snoc e2]
      exact ((hz.sm (.new ht)).snoc (u := (n * u.1 % p, n * u.2 % p)) ⟨t, rfl, upd_same⟩).put eL2
    · rintro H1 ⟨s1, zs, eL, hz⟩
      have e : (timR p n r).take xs.length = timR p n r := List.take_of_length_le (by unfold timR; rw [List.length_map]; omega)
      rw [e] at hz
      refine ⟨L, _, rfl, .inl ⟨SqL.of eL, fun t ht => q t _ (s1.trans (same_upd ht)) ⟨⟨zs, upd_same, hz.sm (.new ht)⟩, in_timR p0 r, ?_⟩⟩⟩
      unfold timR
      rw [List.length_map]
      exact hl
def spLAdd : Sp := fun vs H Q _ => ∃ (p : Int) (m : Nat) (a b : Addr) (r s : Row), vs = [.int p, .ref a, .ref b] ∧ 0 < p ∧ p ≤ 13 ∧ m ≤ 20 ∧ Rk p m H a r ∧ Rk p m H b s ∧ ∀ t H', Same H H' → Rk p m H' t (addR p r s) → Q (.ref t) H'
theorem ok__law_added (T : Tx K mg A) : FnOk P w K mg base CX0 1 A.f__law_added A.d__law_added ["_law_p", "_law_one", "_law_other"] spLAdd := by
  refine T.d__law_added.F.ok sc__law_added (fun vs H Q E h => ?_) (fun cdv A outer s H vs Q E hr h => ?_)
  · obtain ⟨p, m, a, b, r, s, rfl, _⟩ := h
    rfl
  · obtain ⟨p, m, a, b, r, s', rfl, p0, p13, hm, hk, hk2, q⟩ := h
    obtain ⟨⟨xs, ha, hp⟩, _, hl⟩ := hk
    obtain ⟨⟨ys, hb, hp2⟩, _, hl2⟩ := hk2
    have hxl := hp.len
    have hyl := hp2.len
    refine ⟨_, (pss_one (ps_ret (pe_callTy call_tuple_of (by rfl) T.b_tuple PyProof.Rows.boot_tuple (pa_cons (pe_lc (own := [("_law_x", 3), ("_law_y", 4), ("_law_right", 5), ("_law_down", 6)]) (g := (gTup K 2 (gCons (gTup K 2 (gCons (gName 3) (gCons (gName 4) gNil))) (gCons (gTup K 2 (gCons (gName 5) (gCons (gName 6) gNil))) gNil)))) rfl sc__law_added.nd (Zm.pi_zip2 .t .t (by rfl) T.b_zip (pa_cons (pv 1) (pa_cons (pv 2) pa_nil))) (blkOk_by (N := N__law_added) (sc := defScope s__law_added) (by decide +kernel)) (fun _ _ _ _ _ => (pg_tup rfl (pgs_cons (pg_tup rfl (pgs_cons (pg_name (i := 3) sc__law_added.nd rfl (.inl rfl)) (pgs_cons (pg_name (i := 4) sc__law_added.nd rfl (.inl rfl)) pgs_nil))) (pgs_cons (pg_tup rfl (pgs_cons (pg_name (i := 5) sc__law_added.nd rfl (.inl rfl)) (pgs_cons (pg_name (i := 6) sc__law_added.nd rfl (.inl rfl)) pgs_nil))) pgs_nil)))) (fun _ _ _ _ _ => pts_nil) (fun _ _ _ _ _ => (pe_tup (pa_cons (pe_op op_mod (pe_op op_add (pv 3) (pv 5)) (pv 0)) (pa_cons (pe_op op_mod (pe_op op_add (pv 4) (pv 6)) (pv 0)) pa_nil))))) pa_nil)))), ?_⟩
    refine ⟨.ref a, rfl, .ref b, rfl, a, b, xs, ys, rfl, SqT.of ha, SqT.of hb, fun L hL => lc_it (σ := [some (.int p), some (.ref a), some (.ref b), none, none, none, none]) (vs := [3, 4, 5, 6]) (Zm.walk2 (xs := xs) (ys := ys) (by omega)) (fun i H' => Same H H' ∧ ∃ zs, H' L = some (.lst zs) ∧ Prs H' zs ((addR p r s').take i)) ⟨same_upd hL, [], upd_same, by simpa using Prs.nil⟩ (fun i H' _ h => ⟨SqT.of (h.1 _ _ ha), SqT.of (h.1 _ _ hb)⟩) ?_ ?_⟩
    · rintro i x H1 H2 hi ⟨s1, zs, eL, hz⟩ ⟨T1, x1, y1, rfl, hT, rfl, hx, hy⟩
      obtain ⟨u, eu, b1, rfl, hb1⟩ := hp.get hx
      obtain ⟨v, ev, b2, rfl, hb2⟩ := hp2.get hy
      have s2 : Same H (upd H1 T1 (.tup [.ref b1, .ref b2])) := s1.trans (same_upd hT)
      have z1 : upd H1 T1 (.tup [.ref b1, .ref b2]) b1 = some (.tup [.int u.1, .int u.2]) := s2 _ _ hb1
      have z2 : upd H1 T1 (.tup [.ref b1, .ref b2]) b2 = some (.tup [.int v.1, .int v.2]) := s2 _ _ hb2
      refine ⟨T1, [.ref b1, .ref b2], rfl, SqT.of upd_same, rfl, .ref b1, [.ref b2], rfl, ?_⟩
      refine ⟨b1, [.int u.1, .int u.2], rfl, SqT.of z1, rfl, .int u.1, [.int u.2], rfl, .int u.2, [], rfl, rfl, .ref b2, [], rfl, ?_⟩
      refine ⟨b2, [.int v.1, .int v.2], rfl, SqT.of z2, rfl, .int v.1, [.int v.2], rfl, .int v.2, [], rfl, rfl, rfl, ?_⟩
      dsimp only [wipe, List.set]
      have e2 : (addR p r s')[i]? = some ((u.1 + v.1) % p, (u.2 + v.2) % p) := by
        unfold addR
        rw [List.getElem?_zipWith, eu, ev]
      have hzl := hz.len
      rw [List.length_take] at hzl
      have eL1 : upd H1 T1 (.tup [.ref b1, .ref b2]) L = some (.lst zs) := by
        rw [upd_ne (ne_of_none eL hT)]
        exact eL
      refine ⟨rfl, .int u.1, rfl, .int v.1, rfl, u.1, v.1, rfl, rfl, .int p, rfl, _, p, rfl, rfl, p0, .int u.2, rfl, .int v.2, rfl, u.2, v.2, rfl, rfl, .int p, rfl, _, p, rfl, rfl, p0, (by show 2 ≤ sizeLine; decide), fun t ht => ?_⟩
      have eL2 : upd (upd H1 T1 (.tup [.ref b1, .ref b2])) t (.tup [.int ((u.1 + v.1) % p), .int ((u.2 + v.2) % p)]) L = some (.lst zs) := by
        rw [upd_ne (ne_of_none eL1 ht)]
        exact eL1
      refine ⟨zs, eL2, small (by omega), same_put (s2.trans (same_upd ht)) hL, _, upd_same, ?_⟩
      rw [take_snoc e2]
      exact (((hz.sm (.new hT)).sm (.new ht)).snoc (u := ((u.1 + v.1) % p, (u.2 + v.2) % p)) ⟨t, rfl, upd_same⟩).put eL2
    · rintro H1 ⟨s1, zs, eL, hz⟩
      have la : (addR p r s').length = m := by
        unfold addR
        rw [List.length_zipWith]
        omega
      have e : (addR p r s').take xs.length = addR p r s' := List.take_of_length_le (by omega)
      rw [e] at hz
      exact ⟨L, _, rfl, .inl ⟨SqL.of eL, fun t ht => q t _ (s1.trans (same_upd ht)) ⟨⟨zs, upd_same, hz.sm (.new ht)⟩, in_addR p0 r s', la⟩⟩⟩

/-! ### sums -/
theorem Rws.fr {p : Int} {n : Nat} {H H' : Hp} {xs : List V} {rs : List Row} {d g c : Addr} {k : Int} (h : Rws p n H xs rs) (D : Dk d g c k H) (f : Fr d g H H') : Rws p n H' xs rs := ⟨h.len, fun e => let ⟨a, r, h1, h2, h3⟩ := h.get e; ⟨a, r, h1, h2, h3.fr D f⟩, h.fit⟩
theorem Rw.put {H : Hp} {t L : Addr} {r : Row} {ys : List V} {o : HO} (h : Rw H t r) (e : H L = some (.lst ys)) : Rw (upd H L o) t r := by
  obtain ⟨xs, h1, h2⟩ := h
  exact ⟨xs, by rw [upd_ne (ne_of h1 e (by intro z; cases z))]; exact h1, h2.put e⟩
theorem Rws.put {p : Int} {n : Nat} {H : Hp} {xs ys : List V} {rs : List Row} {L : Addr} {o : HO} (h : Rws p n H xs rs) (e : H L = some (.lst ys)) : Rws p n (upd H L o) xs rs := ⟨h.len, fun e2 => let ⟨a, r, h1, h2, h3⟩ := h.get e2; ⟨a, r, h1, h2, h3.put e⟩, h.fit⟩
theorem Rws.rk {p : Int} {n : Nat} {H : Hp} {xs : List V} {rs : List Row} (h : Rws p n H xs rs) {i : Nat} {x : V} (e : xs[i]? = some x) : ∃ a r, x = .ref a ∧ rs[i]? = some r ∧ Rk p n H a r := by
  obtain ⟨a, r, h1, h2, h3⟩ := h.get e
  obtain ⟨h4, h5⟩ := h.fit r (List.mem_of_getElem? h2)
  exact ⟨a, r, h1, h2, h3, h4, h5⟩
theorem Rws.nil {p : Int} {n : Nat} {H : Hp} : Rws p n H [] [] := ⟨rfl, fun e => by simp at e, fun r hr => by simp at hr⟩
open Lin (sumP)
theorem sumP_snoc {p : Int} {m : Nat} {ns : List Int} {rs : List Row} {i : Nat} {n : Int} {r : Row} (h1 : ns[i]? = some n) (h2 : rs[i]? = some r) : sumP p (noR m) ((ns.zip rs).take (i + 1)) = addR p (sumP p (noR m) ((ns.zip rs).take i)) (timR p n r) := by
  have e : (ns.zip rs)[i]? = some (n, r) := by
    unfold List.zip
    rw [List.getElem?_zipWith, h1, h2]
  rw [take_snoc e, Lin.sum_snoc]
  rfl
theorem read_rep {H : Hp} {σ : L2.St} {i m : Nat} {Q : VK} (hs : σ[i]? = some (some (.int m))) (hm : m ≤ 20) (q : ∀ t H', Same H H' → Rw H' t (noR m) → Q (.ref t) H') :
    tOp (Gx.rRepA K) (tTup (tCons (tTup (tCons (tC (.int 0)) (tCons (tC (.int 0)) tNil))) tNil)) (tVar i) σ H Q := by
  refine ⟨(by show 2 ≤ sizeLine; decide), fun t ht => ⟨(by show 1 ≤ sizeLine; decide), fun t2 ht2 => ?_⟩⟩
  have e1 : upd (upd H t (.tup [.int 0, .int 0])) t2 (.tup [.ref t]) t = some (.tup [.int 0, .int 0]) := by
    rw [upd_ne (ne_of_none upd_same ht2)]
    exact upd_same
  have s2 : Same H (upd (upd H t (.tup [.int 0, .int 0])) t2 (.tup [.ref t])) := (same_upd ht).trans (same_upd ht2)
  refine ⟨.int m, hs, t2, m, _, rfl, rfl, SqT.of upd_same, by simp, by omega, by omega, (by show 1 ≤ 1000; decide), fun e => ?_, fun _ t3 ht3 => ?_⟩
  · have e' : m = 1 := by omega
    subst e'
    exact q t2 _ s2 ⟨_, upd_same, prs_rep (k := 1) ⟨t, rfl, e1⟩⟩
  · refine q t3 _ (s2.trans (same_upd ht3)) ⟨_, upd_same, ?_⟩
    rw [rep_one, Int.toNat_natCast]
    exact (prs_rep ⟨t, rfl, e1⟩ m).sm (.new ht3)
theorem At.same {k : Zm.Kd} {H H' : Hp} {a : Addr} {xs : List V} (h : At k H a xs) (s : Same H H') : At k H' a xs := h.sm (.of_same s)
/-! ### stirred -/
theorem inv_of {p n : Int} (hp : p ∈ prs) (h0 : 0 < n) (h1 : n < p) : ∃ c, Lin.Cg p (c * n) 1 := by
  obtain ⟨_, _, e⟩ := pw_inv hp h0 h1
  refine ⟨pw p n (p - 2).toNat, ?_⟩
  have a := Lin.Cg.mod (p := p) (pw p n (p - 2).toNat * n)
  rw [e] at a
  exact a.symm
def Span (p : Int) (rs ss : List Row) : Prop := ∀ u, Lin.Lot p (Lin.spn (rs.map flatR)) u ↔ Lin.Lot p (Lin.spn (ss.map flatR)) u
theorem Span.refl {p : Int} {rs : List Row} : Span p rs rs := fun _ => Iff.rfl
theorem Span.trans {p : Int} {rs ss ts : List Row} (a : Span p rs ss) (b : Span p ss ts) : Span p rs ts := fun u => (a u).trans (b u)
theorem Span.symm {p : Int} {rs ss : List Row} (a : Span p rs ss) : Span p ss rs := fun u => (a u).symm
theorem map_set {α β : Type} (f : α → β) (l : List α) (i : Nat) (x : α) : (l.set i x).map f = (l.map f).set i (f x) := List.map_set
theorem span_add {p c : Int} {rs : List Row} {i j : Nat} {r s : Row} (ne : i ≠ j) (hi : rs[i]? = some r) (hj : rs[j]? = some s) (hl : r.length = s.length) : Span p (rs.set i (addR p r (timR p c s))) rs := by
  intro u
  rw [map_set]
  refine Lin.lot_set_add (c := c) ne (by rw [List.getElem?_map, hi]; rfl) (by rw [List.getElem?_map, hj]; rfl) (fun k => ?_) u
  exact (Lin.vec_addP (p := p) (r := r) (s := timR p c s) (by unfold timR; rw [List.length_map]; exact hl) k).trans (Lin.Cg.rfl'.add (Lin.vec_timP k))
theorem span_mul {p c : Int} {rs : List Row} {i : Nat} {r : Row} (hi : rs[i]? = some r) (hc : ∃ d, Lin.Cg p (d * c) 1) : Span p (rs.set i (timR p c r)) rs := by
  intro u
  obtain ⟨d, hd⟩ := hc
  rw [map_set]
  exact Lin.lot_set_mul (by rw [List.getElem?_map, hi]; rfl) (fun k => Lin.vec_timP k) hd u
theorem Rws.set {p : Int} {n : Nat} {H : Hp} {xs : List V} {rs : List Row} (h : Rws p n H xs rs) {i : Nat} {a : Addr} {r : Row} (k : Rk p n H a r) : Rws p n H (xs.set i (.ref a)) (rs.set i r) := by
  refine ⟨by rw [List.length_set, List.length_set, h.len], fun {j x} e => ?_, fun s hs => ?_⟩
  · by_cases hji : j = i
    · subst hji
      have hj : j < xs.length := by
        have := (List.getElem?_eq_some_iff.mp e).1
        rw [List.length_set] at this
        exact this
      rw [List.getElem?_set_self hj] at e
      cases e
      exact ⟨a, r, rfl, List.getElem?_set_self (by rw [← h.len]; exact hj), k.rw⟩
    · rw [List.getElem?_set_ne (fun z => hji z.symm)] at e
      rw [List.getElem?_set_ne (fun z => hji z.symm)]
      exact h.get e
  · rcases List.mem_or_eq_of_mem_set hs with m | m
    · exact h.fit s m
    · rw [m]
      exact ⟨k.inp, k.len⟩
theorem ixN_nat {n j : Nat} (h : j < n) : ixN n (j : Int) = some j := by
  unfold ixN
  rw [if_pos (by omega), if_pos (by omega), Int.toNat_natCast]
def spStir : Sp := fun vs H Q _ => ∃ (d g c : Addr) (k p : Int) (m : Nat) (b : Addr) (kd : Zm.Kd) (xs : List V) (rs : List Row), vs = [.ref d, .int p, .int m, .ref b] ∧ Dk d g c k H ∧ k ≤ 100000 ∧ p ∈ prs ∧ m ≤ 20 ∧ At kd H b xs ∧ Rws p m H xs rs ∧ xs.length ≤ 40 ∧
  ∀ t ys ss H', Fr d g H H' → Dk d g c (k + 8 * xs.length) H' → H' t = some (.tup ys) → Rws p m H' ys ss → ss.length = rs.length → Span p ss rs → Q (.ref t) H'
theorem ok__law_stirred (T : Tx K mg A) : FnOk P w K mg base CX0 2 A.f__law_stirred A.d__law_stirred ["_law_deck_here", "_law_p", "_law_posts", "_law_rows"] spStir := by
  have G__law_next : FnOk P w K mg base CX0 1 A.f__law_next A.d__law_next ["_law_deck_here", "_law_many"] spNext := ok__law_next T
  have G__law_added : FnOk P w K mg base CX0 1 A.f__law_added A.d__law_added ["_law_p", "_law_one", "_law_other"] spLAdd := ok__law_added T
  have G__law_times : FnOk P w K mg base CX0 1 A.f__law_times A.d__law_times ["_law_p", "_law_number", "_law_row"] spLTim := ok__law_times T
  refine T.d__law_stirred.F.ok sc__law_stirred (fun vs H Q E h => ?_) (fun cdv A outer s H vs Q E hr h => ?_)
  · obtain ⟨d, g, c, k, p, m, b, kd, xs, rs, rfl, _⟩ := h
    rfl
  · obtain ⟨d, g, c, k, p, m, b, kd, xs, rs, rfl, D0, hk, hp, hm, hb, hrs, hxl, q⟩ := h
    obtain ⟨p2, p13⟩ := prs_bd p hp
    have p0 : 0 < p := by omega
    refine ⟨_, (pss_cons (ps_set (i := 4) sc__law_stirred.nd rfl (.inl rfl) (pe_callTy call_list_of (by rfl) T.b_list PyProof.Rows.boot_list (pa_cons (pv 3) pa_nil)))
        (pss_cons (ps_for PassesOwn.never rfl (pi_range1 (by rfl) T.b_range (pa_cons (pe_op op_mul (pe_callB call_len_seq (by rfl) T.b_len PySem.boot_len (pa_cons (pv 4) pa_nil)) pe_int) pa_nil)) (pg_name (i := 5) sc__law_stirred.nd rfl (.inl rfl))
        (pss_cons (ps_set (i := 6) sc__law_stirred.nd rfl (.inl rfl) (pe_call G__law_next hr (by rfl) T.d__law_next.g T.d__law_next.F.kp T.d__law_next.b .nil pass0 (pa_cons (pv 0) (pa_cons (pe_callB call_len_seq (by rfl) T.b_len PySem.boot_len (pa_cons (pv 4) pa_nil)) pa_nil))))
        (pss_cons (ps_set (i := 7) sc__law_stirred.nd rfl (.inl rfl) (pe_call G__law_next hr (by rfl) T.d__law_next.g T.d__law_next.F.kp T.d__law_next.b .nil pass0 (pa_cons (pv 0) (pa_cons (pe_callB call_len_seq (by rfl) T.b_len PySem.boot_len (pa_cons (pv 4) pa_nil)) pa_nil))))
        (pss_cons (ps_if (pt_cmpR op_ne (pv 6) (pv 7) (nomark _))
        (pss_one (ps_asg (pe_call G__law_added hr (by rfl) T.d__law_added.g T.d__law_added.F.kp T.d__law_added.b .nil pass0 (pa_cons (pv 1) (pa_cons (pe_ix ix_list (pv 4) (pv 6) (fun _ _ => rfl)) (pa_cons (pe_call G__law_times hr (by rfl) T.d__law_times.g T.d__law_times.F.kp T.d__law_times.b .nil pass0 (pa_cons (pv 1) (pa_cons (pe_call G__law_next hr (by rfl) T.d__law_next.g T.d__law_next.F.kp T.d__law_next.b .nil pass0 (pa_cons (pv 0) (pa_cons (pv 1) pa_nil))) (pa_cons (pe_ix ix_list (pv 4) (pv 7) (fun _ _ => rfl)) pa_nil)))) pa_nil)))) (pg_sub (pv 4) (pv 6) set_list)))
        pss_nil)
        (pss_one (ps_asg (pe_call G__law_times hr (by rfl) T.d__law_times.g T.d__law_times.F.kp T.d__law_times.b .nil pass0 (pa_cons (pv 1) (pa_cons (pe_op op_add pe_int (pe_call G__law_next hr (by rfl) T.d__law_next.g T.d__law_next.F.kp T.d__law_next.b .nil pass0 (pa_cons (pv 0) (pa_cons (pe_op op_sub (pv 1) pe_int) pa_nil)))) (pa_cons (pe_ix ix_list (pv 4) (pv 7) (fun _ _ => rfl)) pa_nil)))) (pg_sub (pv 4) (pv 7) set_list)))))))
        (pss_one (ps_ret (pe_callTy call_tuple_of (by rfl) T.b_tuple PyProof.Rows.boot_tuple (pa_cons (pv 4) pa_nil)))))), ?_⟩
    have hb2 : SqL K H b xs ∨ SqT K H b xs := by
      cases kd with
      | l => exact .inl (SqL.of hb)
      | t => exact .inr (SqT.of hb)
    refine ⟨.ref b, rfl, b, xs, rfl, hb2, fun L hL => ?_⟩
    have nL := D0.nd hL
    refine ⟨.ref L, rfl, L, _, rfl, .inl (SqL.of upd_same), _, _, rfl, rfl, .inl ⟨by omega, by omega⟩, _, rfl, by omega, by omega, for_range (fun i σ H' => ∃ v5 v6 v7, σ = [some (.ref d), some (.int p), some (.int m), some (.ref b), some (.ref L), v5, v6, v7] ∧ Dk d g c (k + 4 * i) H' ∧ Fr d g H H' ∧ ∃ ys ss, H' L = some (.lst ys) ∧ Rws p m H' ys ss ∧ ss.length = rs.length ∧ Span p ss rs)
      ⟨_, _, _, rfl, (D0.same (same_upd hL)).mono (by omega), .new hL, xs, rs, upd_same, hrs.sm (.new hL), rfl, .refl⟩ ?_ ?_⟩
    · rintro i σ H1 hi ⟨v5, v6, v7, rfl, D1, f1, ys, ss, eL, hss, sl, sp⟩
      have yl := hss.len
      have hrl := hrs.len
      have hi2 : (i : Int) < xs.length * 2 := by omega
      have pos : 0 < ys.length := by omega
      -- two places
      refine ⟨.ref d, rfl, .ref L, rfl, L, _, rfl, .inl (SqL.of eL), d, g, c, _, _, rfl, by omega, by omega, D1, by omega, fun r1 H2 r10 r11 D2 f2 => ?_⟩
      obtain ⟨b1, rfl⟩ := Int.eq_ofNat_of_zero_le r10
      have eL2 := f2 L _ nL.1 nL.2.1 eL
      refine ⟨.ref d, rfl, .ref L, rfl, L, _, rfl, .inl (SqL.of eL2), d, g, c, _, _, rfl, by omega, by omega, D2, by omega, fun r2 H3 r20 r21 D3 f3 => ?_⟩
      obtain ⟨b2, rfl⟩ := Int.eq_ofNat_of_zero_le r20
      have eL3 := f3 L _ nL.1 nL.2.1 eL2
      have hss3 := (hss.fr D1 f2).fr D2 f3
      have fr3 := (f1.trans f2).trans f3
      refine ⟨.int (b1 : Nat), rfl, .int (b2 : Nat), rfl, rfl, _, rfl, ite2 (fun e => ?_) (fun e => ?_)⟩
      · have ne : b1 ≠ b2 := fun z => by
          subst z
          simp at e
        obtain ⟨xi, exi⟩ : ∃ x, ys[b1]? = some x := ⟨_, List.getElem?_eq_getElem (by omega)⟩
        obtain ⟨ci, ri, rfl, eri, ki⟩ := hss3.rk exi
        obtain ⟨xo, exo⟩ : ∃ x, ys[b2]? = some x := ⟨_, List.getElem?_eq_getElem (by omega)⟩
        obtain ⟨co, ro, rfl, ero, ko⟩ := hss3.rk exo
        refine ⟨.int p, rfl, .ref L, rfl, .int (b1 : Nat), rfl, L, _, (b1 : Nat), .ref ci, rfl, rfl, SqL.of eL3, atI_nat exi, .int p, rfl, .ref d, rfl, .int p, rfl, d, g, c, _, p, rfl, p0, by omega, D3, by omega, fun r4 H4 r40 r41 D4 f4 => ?_⟩
        have eL4 := f4 L _ nL.1 nL.2.1 eL3
        refine ⟨.ref L, rfl, .int (b2 : Nat), rfl, L, _, (b2 : Nat), .ref co, rfl, rfl, SqL.of eL4, atI_nat exo, p, r4, m, co, ro, rfl, p0, p13, r40, by omega, hm, ko.fr D3 f4, fun t5 H5 s5 k5 => ?_⟩
        refine ⟨p, m, ci, t5, ri, _, rfl, p0, p13, hm, (ki.fr D3 f4).sm (.of_same s5), k5, fun t6 H6 s6 k6 => ?_⟩
        have eL6 := s6 _ _ (s5 _ _ eL4)
        have hss6 := (((hss3.fr D3 f4).sm (.of_same s5)).sm (.of_same s6)).set (i := b1) k6
        refine ⟨.ref L, rfl, .int (b1 : Nat), rfl, L, _, (b1 : Nat), b1, rfl, rfl, eL6, ixN_nat (by omega), ?_⟩
        have D7 := ((D4.same s5).same s6).put (o := .lst (ys.set b1 (.ref t6))) nL.1 nL.2.1 nL.2.2
        have hss7 := hss6.put (o := .lst (ys.set b1 (.ref t6))) eL6
        have eL7 : upd H6 L (.lst (ys.set b1 (.ref t6))) L = some (.lst (ys.set b1 (.ref t6))) := upd_same
        have fr7 : Fr d g H (upd H6 L (.lst (ys.set b1 (.ref t6)))) := fun a o e1 e2 e => by
          rw [upd_ne (ne_of_none e hL)]
          exact s6 _ _ (s5 _ _ (f4 _ _ e1 e2 (fr3 _ _ e1 e2 e)))
        have sp7 : Span p (ss.set b1 (addR p ri (timR p r4 ro))) rs := (span_add ne eri ero (by rw [ki.len, ko.len])).trans sp
        have sl7 : (ss.set b1 (addR p ri (timR p r4 ro))).length = rs.length := by rw [List.length_set]; exact sl
        generalize upd H6 L (.lst (ys.set b1 (.ref t6))) = H7 at D7 hss7 eL7 fr7 ⊢
        have ysl : (ys.set b1 (.ref t6)).length = ys.length := List.length_set
        have yl7 := hss7.len
        obtain ⟨xj, exj⟩ : ∃ x, (ys.set b1 (.ref t6))[b2]? = some x := ⟨_, List.getElem?_eq_getElem (by omega)⟩
        obtain ⟨cj, rj, rfl, erj, kj⟩ := hss7.rk exj
        refine ⟨.int p, rfl, .ref d, rfl, .int p, rfl, p, 1, rfl, rfl, d, g, c, _, p - 1, rfl, by omega, by omega, D7, by omega, fun r3 H8 r30 r31 D8 f8 => ?_⟩
        have eL8 := f8 L _ nL.1 nL.2.1 eL7
        have kj8 := kj.fr D7 f8
        refine ⟨1, r3, rfl, rfl, .ref L, rfl, .int (b2 : Nat), rfl, L, _, (b2 : Nat), .ref cj, rfl, rfl, SqL.of eL8, atI_nat exj, p, 1 + r3, m, cj, rj, rfl, p0, p13, by omega, by omega, hm, kj8, fun t9 H9 s9 k9 => ?_⟩
        have eL9 := s9 _ _ eL8
        refine ⟨.ref L, rfl, .int (b2 : Nat), rfl, L, _, (b2 : Nat), b2, rfl, rfl, eL9, ixN_nat (by omega), ?_⟩
        refine ⟨_, _, _, rfl, ((D8.same s9).put nL.1 nL.2.1 nL.2.2).mono (by omega), fun a o e1 e2 e => ?_, _, _, upd_same, (((hss7.fr D7 f8).sm (.of_same s9)).set k9).put eL9, by rw [List.length_set]; exact sl7, (span_mul erj (inv_of hp (by omega) (by omega))).trans sp7⟩
        rw [upd_ne (ne_of_none e hL)]
        exact s9 _ _ (f8 _ _ e1 e2 (fr7 _ _ e1 e2 e))
      · have yl3 := hss3.len
        obtain ⟨xj, exj⟩ : ∃ x, ys[b2]? = some x := ⟨_, List.getElem?_eq_getElem (by omega)⟩
        obtain ⟨cj, rj, rfl, erj, kj⟩ := hss3.rk exj
        refine ⟨.int p, rfl, .ref d, rfl, .int p, rfl, p, 1, rfl, rfl, d, g, c, _, p - 1, rfl, by omega, by omega, D3, by omega, fun r3 H8 r30 r31 D8 f8 => ?_⟩
        have eL8 := f8 L _ nL.1 nL.2.1 eL3
        have kj8 := kj.fr D3 f8
        refine ⟨1, r3, rfl, rfl, .ref L, rfl, .int (b2 : Nat), rfl, L, _, (b2 : Nat), .ref cj, rfl, rfl, SqL.of eL8, atI_nat exj, p, 1 + r3, m, cj, rj, rfl, p0, p13, by omega, by omega, hm, kj8, fun t9 H9 s9 k9 => ?_⟩
        have eL9 := s9 _ _ eL8
        refine ⟨.ref L, rfl, .int (b2 : Nat), rfl, L, _, (b2 : Nat), b2, rfl, rfl, eL9, ixN_nat (by omega), ?_⟩
        refine ⟨_, _, _, rfl, ((D8.same s9).put nL.1 nL.2.1 nL.2.2).mono (by omega), fun a o e1 e2 e => ?_, _, _, upd_same, (((hss3.fr D3 f8).sm (.of_same s9)).set k9).put eL9, by rw [List.length_set]; exact sl, (span_mul erj (inv_of hp (by omega) (by omega))).trans sp⟩
        rw [upd_ne (ne_of_none e hL)]
        exact s9 _ _ (f8 _ _ e1 e2 (fr3 _ _ e1 e2 e))
    · rintro σ H1 ⟨v5, v6, v7, rfl, D1, f1, ys, ss, eL, hss, sl, sp⟩
      refine ⟨.ref L, rfl, L, _, rfl, .inl ⟨SqL.of eL, fun t ht => ?_⟩⟩
      exact q t ys ss _ (f1.trans (.new ht)) ((D1.same (same_upd ht)).mono (by omega)) upd_same (hss.sm (.new ht)) sl sp
-- CUT
/-! ### a plain set that is drawn -/
theorem flat_take {r : Row} {i : Nat} {u : Int × Int} (e : r[i]? = some u) : flatR (r.take (i + 1)) = flatR (r.take i) ++ [u.1, u.2] := by
  rw [take_snoc e, flat_snoc]
theorem ev2_same {α : Type} : ∀ xs : List α, Lz.ev2 xs = Lin.ev2 xs
  | [] => rfl
  | [_] => rfl
  | a :: b :: r => by
    show a :: Lz.ev2 r = a :: Lin.ev2 r
    rw [ev2_same r]
theorem zip_get? {α β : Type} {xs : List α} {ys : List β} {i : Nat} {x : α} {y : β} (h1 : xs[i]? = some x) (h2 : ys[i]? = some y) : (xs.zip ys)[i]? = some (x, y) := by
  unfold List.zip
  rw [List.getElem?_zipWith, h1, h2]
theorem pairwise_lt_of {l : List Nat} (s : (l.map fun x => ((x : Nat) : Int)).Pairwise (· ≤ ·)) (nd : l.Nodup) : l.Pairwise (· < ·) := by
  rw [List.pairwise_map] at s
  exact (s.and nd).imp fun {a b} h => by omega
open Lin (Pln rowL)
/-- what a row of a plain set is, as far as its zeros are put -/
structure Prow (p : Int) (n q : Nat) (os : List Nat) (us : List Int) : Prop where
  len : us.length = n
  rg : Rg p us
  ah : ∀ j, j < q → vec us j = 0
  one : vec us q = 1
  oth : ∀ o ∈ os, q < o → vec us o = 0
theorem Prow.start {p : Int} {n q : Nat} {ns : List Int} (p1 : 1 < p) (hq : q < n) (hl : ns.length = n - q - 1) (hn : ∀ x ∈ ns, 0 ≤ x ∧ x < p) : Prow p n q [] (List.replicate q 0 ++ [1] ++ ns) := by
  have lr : (List.replicate q (0 : Int)).length = q := List.length_replicate
  refine ⟨?_, ?_, ?_, ?_, fun o ho => by simp at ho⟩
  · rw [List.length_append, List.length_append, lr, List.length_singleton]
    omega
  · intro u hu
    rcases List.mem_append.mp hu with hu | hu
    · rcases List.mem_append.mp hu with hu | hu
      · rw [(List.mem_replicate.mp hu).2]
        omega
      · rw [List.mem_singleton.mp hu]
        omega
    · exact hn u hu
  · intro j hj
    apply Lin.vec_some
    rw [List.append_assoc, List.getElem?_append_left (by omega), List.getElem?_replicate, if_pos hj]
  · apply Lin.vec_some
    rw [List.append_assoc, List.getElem?_append_right (by omega), lr, Nat.sub_self]
    rfl
theorem vec_set {us : List Int} {o j : Nat} {x : Int} (h : o < us.length) : vec (us.set o x) j = if j = o then x else vec us j := by
  by_cases e : j = o
  · rw [if_pos e, e]
    exact Lin.vec_some (List.getElem?_set_self h)
  · rw [if_neg e]
    show (us.set o x).getD j 0 = us.getD j 0
    rw [List.getD_eq_getElem?_getD, List.getD_eq_getElem?_getD, List.getElem?_set_ne (fun z => e z.symm)]
theorem Prow.zero {p : Int} {n q o : Nat} {os : List Nat} {us : List Int} (p0 : 0 < p) (h : Prow p n q os us) (ho : q < o) (hn : o < n) : Prow p n q (os ++ [o]) (us.set o 0) := by
  have ol : o < us.length := by rw [h.len]; exact hn
  refine ⟨by rw [List.length_set]; exact h.len, fun u hu => ?_, fun j hj => ?_, ?_, fun w hw hqw => ?_⟩
  · rcases List.mem_or_eq_of_mem_set hu with m | m
    · exact h.rg u m
    · rw [m]
      omega
  · rw [vec_set ol, if_neg (by omega)]
    exact h.ah j hj
  · rw [vec_set ol, if_neg (by omega)]
    exact h.one
  · rw [vec_set ol]
    split
    · rfl
    · rename_i ne
      rcases List.mem_append.mp hw with m | m
      · exact h.oth w m hqw
      · exact absurd (List.mem_singleton.mp m) ne
theorem Prow.skip {p : Int} {n q o : Nat} {os : List Nat} {us : List Int} (h : Prow p n q os us) (ho : ¬ q < o) : Prow p n q (os ++ [o]) us := by
  refine ⟨h.len, h.rg, h.ah, h.one, fun w hw hqw => ?_⟩
  rcases List.mem_append.mp hw with m | m
  · exact h.oth w m hqw
  · rw [List.mem_singleton.mp m] at hqw
    exact absurd hqw ho
theorem Rws.snoc {p : Int} {n : Nat} {H : Hp} {xs : List V} {rs : List Row} {a : Addr} {r : Row} (h : Rws p n H xs rs) (k : Rk p n H a r) : Rws p n H (xs ++ [.ref a]) (rs ++ [r]) := by
  refine ⟨by rw [List.length_append, List.length_append, h.len]; rfl, fun {i x} e => ?_, fun s hs => ?_⟩
  · by_cases hi : i < xs.length
    · rw [List.getElem?_append_left hi] at e
      rw [List.getElem?_append_left (by rw [← h.len]; exact hi)]
      exact h.get e
    · rw [List.getElem?_append_right (by omega)] at e
      rw [List.getElem?_append_right (by rw [← h.len]; omega), ← h.len]
      cases hk : i - xs.length with
      | zero =>
        rw [hk] at e
        cases e
        exact ⟨a, r, rfl, rfl, k.rw⟩
      | succ m =>
        rw [hk] at e
        simp at e
  · rcases List.mem_append.mp hs with m | m
    · exact h.fit s m
    · rw [List.mem_singleton.mp m]
      exact ⟨k.inp, k.len⟩
def natV (l : List Nat) : List V := l.map fun j => V.int (j : Nat)
theorem natV_len {l : List Nat} : (natV l).length = l.length := List.length_map ..
theorem natV_int {l : List Nat} : natV l = (l.map fun x => ((x : Nat) : Int)).map V.int := by
  unfold natV
  rw [List.map_map]
  rfl
theorem natV_get {l : List Nat} {i : Nat} {x : Nat} (h : l[i]? = some x) : (natV l)[i]? = some (V.int (x : Nat)) := by
  unfold natV
  rw [List.getElem?_map, h]
  rfl
theorem natV_erase {l : List Nat} {i : Nat} : (natV l).eraseIdx i = natV (l.eraseIdx i) := by
  unfold natV
  rw [List.eraseIdx_eq_take_drop_succ, List.eraseIdx_eq_take_drop_succ, List.map_append, List.map_take, List.map_drop]
theorem rgV_nat {n : Nat} : rgV 0 (n : Int) = natV (List.range n) := by
  unfold rgV natV
  have e : ((n : Int) - 0).toNat = n := by omega
  rw [e]
  apply List.map_congr_left
  intro i _
  rw [Int.zero_add]
theorem ixN_seqN {n j : Nat} (h : j < n) : seqIndex? (j : Int) n = some j := (ixN_seq (ixN_nat h)).1
/-! ### rows that span a lot -/
theorem insert_get {xs : List V} {rs : List Row} {p : Int} {n : Nat} {H : Hp} (h : Rws p n H xs rs) {i : Nat} (hi : i ≤ xs.length) {a : Addr} {r : Row} (k : Rk p n H a r) : Rws p n H (xs.take i ++ [.ref a] ++ xs.drop i) (rs.take i ++ [r] ++ rs.drop i) := by
  have ht : Rws p n H (xs.take i) (rs.take i) := by
    refine ⟨by rw [List.length_take, List.length_take, h.len], fun {j x} e => ?_, fun s hs => h.fit s (List.mem_of_mem_take hs)⟩
    have hj : j < i := by
      have := (List.getElem?_eq_some_iff.mp e).1
      rw [List.length_take] at this
      omega
    rw [List.getElem?_take, if_pos hj] at e
    rw [List.getElem?_take, if_pos hj]
    exact h.get e
  have hd : Rws p n H (xs.drop i) (rs.drop i) := by
    refine ⟨by rw [List.length_drop, List.length_drop, h.len], fun {j x} e => ?_, fun s hs => h.fit s (List.mem_of_mem_drop hs)⟩
    rw [List.getElem?_drop] at e ⊢
    exact h.get e
  have h1 := ht.snoc k
  refine ⟨by have a := h1.len; have b := hd.len; simp only [List.length_append] at *; omega, fun {j x} e => ?_, fun s hs => ?_⟩
  · by_cases hj : j < (xs.take i ++ [V.ref a]).length
    · rw [List.getElem?_append_left hj] at e
      rw [List.getElem?_append_left (by rw [← h1.len]; exact hj)]
      exact h1.get e
    · rw [List.getElem?_append_right (by omega)] at e
      rw [List.getElem?_append_right (by rw [← h1.len]; omega), ← h1.len]
      exact hd.get e
  · rcases List.mem_append.mp hs with m | m
    · exact h1.fit s m
    · exact hd.fit s m
theorem span_insert {p : Int} {rs ss : List Row} {i : Nat} {r : Row} (h : Span p ss rs) (hr : Lin.Lot p (Lin.spn (rs.map flatR)) (vec (flatR r))) : Span p (ss.take i ++ [r] ++ ss.drop i) rs := by
  refine Span.trans (fun u => ?_) h
  refine Lin.lot_more_rows (f := flatR r) ((h _).mpr hr) (fun g => ?_) u
  constructor
  · intro hg
    obtain ⟨s, hs, rfl⟩ := List.mem_map.mp hg
    rcases List.mem_append.mp hs with m | m
    · rcases List.mem_append.mp m with m | m
      · exact .inl (List.mem_map.mpr ⟨s, List.mem_of_mem_take m, rfl⟩)
      · rw [List.mem_singleton.mp m]
        exact .inr rfl
    · exact .inl (List.mem_map.mpr ⟨s, List.mem_of_mem_drop m, rfl⟩)
  · rintro (hg | rfl)
    · obtain ⟨s, hs, rfl⟩ := List.mem_map.mp hg
      refine List.mem_map.mpr ⟨s, ?_, rfl⟩
      rw [← List.take_append_drop i ss] at hs
      rcases List.mem_append.mp hs with m | m
      · exact List.mem_append.mpr (.inl (List.mem_append.mpr (.inl m)))
      · exact List.mem_append.mpr (.inr m)
    · exact List.mem_map.mpr ⟨r, by simp, rfl⟩
theorem sum_in {p : Int} {m : Nat} {ns : List Int} {rs : List Row} (hl : ∀ r ∈ rs, r.length = m) : Lin.Lot p (Lin.spn (rs.map flatR)) (vec (flatR (sumP p (noR m) (ns.zip rs)))) :=
  Lin.sum_lot (l := ns.zip rs) (fun x hx => hl _ (List.of_mem_zip hx).2) fun x hx => (List.of_mem_zip hx).2
/-! ### rows told -/
def pairD (u : Int × Int) : PyData := .tuple [.int u.1, .int u.2]
def rowD (r : Row) : PyData := .tuple (r.map pairD)
theorem dq_prs {H : Hp} : ∀ {xs : List V} {r : Row}, Prs H xs r → DqAll H xs (r.map pairD)
  | [], [], _ => .nil
  | [], _ :: _, h => by have := h.len; simp at this
  | _ :: _, [], h => by have := h.len; simp at this
  | x :: xs, u :: r, h => by
    obtain ⟨v, e, a, rfl, ha⟩ := h.get (i := 0) (x := x) rfl
    cases e
    refine .cons (.tup ha (.cons (.int _) (.cons (.int _) .nil))) (dq_prs (xs := xs) (r := r) ⟨by have := h.len; simpa using this, fun {i y} e => h.get (i := i + 1) e⟩)
theorem dq_row {H : Hp} {t : Addr} {r : Row} (h : Rw H t r) : Dq H (.ref t) (rowD r) := let ⟨_, e, p⟩ := h; .tup e (dq_prs p)
theorem gd_num {i : Int} (h : 0 ≤ i ∧ i < 13) : Gd 5 0 (.int i) := Gd.int (k := 4) (by decide) (by decide) (by show i.natAbs < 16; omega)
theorem gd_pairs : ∀ {r : Row}, In 13 r → GdAll (13 * r.length) 1 (r.map pairD)
  | [], _ => .nil
  | u :: r, h => by
    have hu := h u (by simp)
    have g : Gd 12 1 (pairD u) := Gd.tup ((GdAll.cons (gd_num hu.1) (GdAll.cons (gd_num hu.2) (GdAll.nil (n := 0)))).mono (by decide) (by decide))
    have k := gd_pairs (r := r) fun v hv => h v (List.mem_cons_of_mem _ hv)
    exact (GdAll.cons g k).mono (by rw [List.length_cons]; omega) (by decide)
theorem gd_row {r : Row} (h : In 13 r) (hl : r.length ≤ 100) : Gd 1300 2 (rowD r) := (Gd.tup (gd_pairs h)).mono (by omega) (by decide)
theorem in13 {p : Int} {r : Row} (h : In p r) (hp : p ≤ 13) : In 13 r := fun u hu => by have := h u hu; omega
theorem md {p : Int} (h : 0 < p) (a : Int) : 0 ≤ a % p ∧ a % p < p := ⟨Int.emod_nonneg a (by omega), Int.emod_lt_of_pos a h⟩
/-! lists and tuples of rows told; rows compared -/
theorem gd_row20 {r : Row} (h : In 13 r) (hl : r.length ≤ 20) : Gd 300 2 (rowD r) := (Gd.tup (gd_pairs h)).mono (by omega) (by decide)
theorem gd_rows : ∀ {rs : List Row}, (∀ r ∈ rs, In 13 r ∧ r.length ≤ 20) → GdAll (301 * rs.length) 2 (rs.map rowD)
  | [], _ => .nil
  | r :: rs, h => by
    have hr := h r (by simp)
    have k := gd_rows (rs := rs) fun s hs => h s (List.mem_cons_of_mem _ hs)
    exact (GdAll.cons (gd_row20 hr.1 hr.2) k).mono (by rw [List.length_cons]; omega) (by decide)
theorem Rws.dq {p : Int} {n : Nat} {H : Hp} : ∀ {xs : List V} {rs : List Row}, Rws p n H xs rs → DqAll H xs (rs.map rowD)
  | [], [], _ => .nil
  | [], _ :: _, h => by have := h.len; simp at this
  | _ :: _, [], h => by have := h.len; simp at this
  | x :: xs, r :: rs, h => by
    obtain ⟨a, s, rfl, e, w⟩ := h.get (i := 0) (x := x) rfl
    cases e
    exact .cons (dq_row w) (Rws.dq (p := p) (n := n) (xs := xs) (rs := rs) ⟨by have := h.len; simpa using this, fun {i y} e => h.get (i := i + 1) e, fun s hs => h.fit s (List.mem_cons_of_mem _ hs)⟩)
def manyD (k : Zm.Kd) (ds : List PyData) : PyData := match k with
  | .l => .list ds
  | .t => .tuple ds
theorem dq_many {k : Zm.Kd} {p : Int} {n : Nat} {H : Hp} {a : Addr} {xs : List V} {rs : List Row} (e : At k H a xs) (h : Rws p n H xs rs) : Dq H (.ref a) (manyD k (rs.map rowD)) := match k, e with
  | .l, e => .lst e h.dq
  | .t, e => .tup e h.dq
theorem gd_many {k : Zm.Kd} {rs : List Row} (h : ∀ r ∈ rs, In 13 r ∧ r.length ≤ 20) (hl : rs.length ≤ 100) : Gd 40000 3 (manyD k (rs.map rowD)) := match k with
  | .l => (Gd.lst (gd_rows h)).mono (by omega) (by decide)
  | .t => (Gd.tup (gd_rows h)).mono (by omega) (by decide)
theorem dp_prs {H : Hp} : ∀ {xs : List V} {r : Row}, Prs H xs r → DpAll K H xs (r.map pairD)
  | [], [], _ => .nil
  | [], _ :: _, h => by have := h.len; simp at this
  | _ :: _, [], h => by have := h.len; simp at this
  | x :: xs, u :: r, h => by
    obtain ⟨v, e, a, rfl, ha⟩ := h.get (i := 0) (x := x) rfl
    cases e
    exact .cons (.tup (SqT.of ha) (.cons (.int _) (.cons (.int _) .nil))) (dp_prs (xs := xs) (r := r) ⟨by have := h.len; simpa using this, fun {i y} e => h.get (i := i + 1) e⟩)
theorem dp_row {H : Hp} {t : Addr} {r : Row} (h : Rw H t r) : Dp K H (.ref t) (rowD r) := let ⟨_, e, p⟩ := h; .tup (SqT.of e) (dp_prs p)
theorem lay_pairs : ∀ r : Row, PyData.canLayAll0 (r.map pairD) = true
  | [] => by simp [PyData.canLayAll0]
  | u :: r => by simp [PyData.canLayAll0, PyData.canLay0, pairD, lay_pairs r]
theorem dep_pairs : ∀ r : Row, PyData.depthAll (r.map pairD) ≤ 1
  | [] => by simp [PyData.depthAll]
  | u :: r => by
    have := dep_pairs r
    simp [PyData.depthAll, PyData.depth, pairD]
    omega
theorem sh_row (r : Row) : SeqAt.shaped (rowD r) = true := by
  have h1 := dep_pairs r
  have h2 : PyData.depth (rowD r) ≤ 64 := by
    unfold rowD
    simp only [PyData.depth]
    omega
  show (PyData.canLay0 (rowD r) && decide (PyData.depth (rowD r) ≤ 64)) = true
  rw [Bool.and_eq_true]
  exact ⟨by unfold rowD; simp only [PyData.canLay0]; exact lay_pairs r, decide_eq_true h2⟩
theorem eqv_pairs : ∀ r s : Row, PyData.eqvAll (r.map pairD) (s.map pairD) = decide (r = s)
  | [], [] => by simp [PyData.eqvAll]
  | [], _ :: _ => by simp [PyData.eqvAll]
  | _ :: _, [] => by simp [PyData.eqvAll]
  | u :: r, v :: s => by
    have ih := eqv_pairs r s
    have e : PyData.eqv (pairD u) (pairD v) = decide (u = v) := by
      obtain ⟨a, b⟩ := u
      obtain ⟨c, d⟩ := v
      rw [Bool.eq_iff_iff]
      simp [pairD, PyData.eqv, PyData.eqvAll]
    simp only [List.map_cons, PyData.eqvAll, e, ih]
    simp
theorem eqv_row (r s : Row) : PyData.eqv (rowD r) (rowD s) = decide (r = s) := by
  unfold rowD
  simp only [PyData.eqv]
  exact eqv_pairs r s
/-! ### rows of flats, plain -/
theorem rgc_all : ∀ m ∈ List.range 21, PySem.Builtin.Range.small 0 ((2 * m : Nat) : Int) 2 = true ∧ PySem.Builtin.Range.rangeSize 0 ((2 * m : Nat) : Int) 2 = (m : Nat) := by decide +kernel
theorem rgc {m : Nat} (h : m ≤ 20) : RgC 0 ((2 * m : Nat) : Int) 2 m := ⟨by decide, by decide, (rgc_all m (List.mem_range.mpr (by omega))).1, (rgc_all m (List.mem_range.mpr (by omega))).2⟩
def spRowOf (P : Addr) : Sp := fun vs H Q _ => ∃ (a : Addr) (us : List Int) (m : Nat), vs = [.ref a] ∧ Fl H a us ∧ us.length = 2 * m ∧ m ≤ 20 ∧ GxR.TabG H P ∧ ∀ t H', Sm H H' → Rw H' t (Lin.rowL us) → Q (.ref t) H'
theorem rowL_get {us : List Int} {m i : Nat} (h : us.length = 2 * m) (hi : i < m) : (Lin.rowL us)[i]? = some (us[2 * i]'(by omega), us[2 * i + 1]'(by omega)) := by
  have e1 : (Lin.ev2 us)[i]? = some (us[2 * i]'(by omega)) := by
    rw [← ev2_same, Lz.ev2_get, List.getElem?_eq_getElem]
  have e2 : (Lin.ev2 (us.drop 1))[i]? = some (us[2 * i + 1]'(by omega)) := by
    rw [← ev2_same, Lz.ev2_get, List.getElem?_drop, Nat.add_comm, List.getElem?_eq_getElem]
  unfold Lin.rowL
  exact zip_get? e1 e2
theorem ok_row_of (T : Tx K mg A) (B : Tb K mg base A C) : FnOk P w K mg base CX0 6 A.f_row_of A.d_row_of ["flat"] (spRowOf C.p_row_of) := by
  refine B.k_row_of.ok sc_row_of (fun vs H Q E h => ?_) (fun A outer s H vs Q E hr h => ?_)
  · obtain ⟨a, us, m, rfl, _⟩ := h
    rfl
  · obtain ⟨a, us, m, rfl, ha, hl, hm, tg, q⟩ := h
    refine ⟨_, (pss_one (ps_ret (Gx.pe_tupGx (k := 0) (own := [("place", 1)]) (g := (gName 1)) rfl hr sc_row_of.nd (by rfl) T.b_tuple B.t_row_of rfl (pi_range3 (by rfl) T.b_range (pa_cons pe_int (pa_cons (pe_callB call_len_seq (by rfl) T.b_len PySem.boot_len (pa_cons (pv 0) pa_nil)) (pa_cons pe_int pa_nil)))) (blkOk_by (N := N_row_of) (sc := defScope s_row_of) (by decide +kernel)) rfl rfl (fun _ _ _ _ _ _ => (pg_name (i := 1) sc_row_of.nd rfl (.inl rfl) (.inr rfl))) (fun _ _ _ _ _ _ hq => (pe_tup (pa_cons (pe_ix (show IxR _ (rIxL K) from ix_list) (pv 0) (pv 1) (fun _ _ => rfl)) (pa_cons (pe_ix (show IxR _ (rIxL K) from ix_list) (pv 0) (pe_op op_add (pv 1) pe_int) (fun _ _ => rfl)) pa_nil)))) (fun _ => rfl)))), ?_⟩
    have ha' : H a = some (.lst (us.map V.int)) := ha
    refine ⟨.ref a, rfl, a, _, rfl, .inl (SqL.of ha'), ?_⟩
    rw [List.length_map, hl]
    refine ⟨0, ((2 * m : Nat) : Int), 2, m, rfl, rgc hm, tg, fun H2 tb => ?_⟩
    have s2 := Sm.tabbed tg tb
    have rl := Lin.rowL_flat m us hl
    refine gx_it walk_rangeC (fun i zs H' => Sm H H' ∧ Prs H' zs ((Lin.rowL us).take i)) ⟨s2, by simpa using Prs.nil⟩ (fun i zs H' _ h => trivial) ?_ ?_
    · rintro i x zs H3 H4 hi ⟨s3, hz⟩ ⟨rfl, rfl⟩
      have ha3 := s3.lst ha'
      have e1 : atI (us.map V.int) (0 + (i : Nat) * 2) = some (V.int (us[2 * i]'(by omega))) := by
        have e : (0 + (i : Nat) * 2 : Int) = ((2 * i : Nat) : Int) := by omega
        rw [e]
        apply atI_nat
        rw [List.getElem?_map, List.getElem?_eq_getElem (by omega)]
        rfl
      have e2 : atI (us.map V.int) (0 + (i : Nat) * 2 + 1) = some (V.int (us[2 * i + 1]'(by omega))) := by
        have e : (0 + (i : Nat) * 2 + 1 : Int) = ((2 * i + 1 : Nat) : Int) := by omega
        rw [e]
        apply atI_nat
        rw [List.getElem?_map, List.getElem?_eq_getElem (by omega)]
        rfl
      have hzl := hz.len
      rw [List.length_take] at hzl
      refine ⟨rfl, .ref a, rfl, _, rfl, a, _, _, _, rfl, rfl, SqL.of ha3, e1, .ref a, rfl, _, rfl, _, 1, rfl, rfl, a, _, _, _, rfl, rfl, SqL.of ha3, e2, (by show 2 ≤ sizeLine; decide), fun t ht => ⟨small (by omega), s3.trans (.new ht), ?_⟩⟩
      rw [take_snoc (rowL_get hl hi)]
      exact (hz.sm (.new ht)).snoc ⟨t, rfl, upd_same⟩
    · rintro zs H3 ⟨s3, hz⟩ t ht
      rw [List.take_of_length_le (by omega)] at hz
      exact q t _ (s3.trans (.new ht)) ⟨zs, upd_same, hz.sm (.new ht)⟩
/-- what stands nowhere yet, but as a table -/
def Nw (H : Hp) (t : Addr) : Prop := ∀ o, H t = some o → ∃ ps, o = .tbl ps
theorem Nw.of {H : Hp} {t : Addr} (h : H t = none) : Nw H t := fun o e => by rw [h] at e; cases e
theorem Nw.sm {H H' : Hp} {t : Addr} (s : Sm H H') (h : Nw H' t) : Nw H t := fun o e => by
  cases o with
  | tbl ps => exact ⟨ps, rfl⟩
  | _ =>
    obtain ⟨ps, e2⟩ := h _ (s.kp t _ (by intro ps z; cases z) e)
    cases e2
theorem Nw.ne {H : Hp} {t a : Addr} {xs : List V} (h : Nw H t) (e : H a = some (.lst xs)) : a ≠ t := fun z => by
  rw [z] at e
  obtain ⟨ps, e2⟩ := h _ e
  cases e2
theorem Nw.neT {H : Hp} {t a : Addr} {xs : List V} (h : Nw H t) (e : H a = some (.tup xs)) : a ≠ t := fun z => by
  rw [z] at e
  obtain ⟨ps, e2⟩ := h _ e
  cases e2
def spPlainP (P : Addr) : Sp := fun vs H Q _ => ∃ (p : Int) (n : Nat) (a : Addr) (k : Zm.Kd) (xs : List V) (rs : List Row), vs = [.int p, .int n, .ref a] ∧ p ∈ ([2, 3, 5, 7, 11, 13] : List Int) ∧ n ≤ 20 ∧ At k H a xs ∧ Rws p n H xs rs ∧ xs.length ≤ 200 ∧ GxR.TabG H P ∧
  ∀ (t : Addr) (ys : List V) (ss : List Row) (L : List (Nat × List Int)) (H' : Hp), Sm H H' → Nw H t → H' t = some (.lst ys) → Rws p n H' ys ss → ss.map flatR = L.map (·.2) → PL p (2 * n) (rs.map flatR) L → Up L → Q (.ref t) H'
theorem ok_plain (T : Tx K mg A) (B : Tb K mg base A C) : FnOk P w K mg base CX0 7 A.f_plain A.d_plain ["p", "posts", "rows"] (spPlainP C.p_row_of) := by
  have G_row_leads : FnOk P w K mg base CX0 4 A.f_row_leads A.d_row_leads ["p", "rows"] spRowLeads := ok_row_leads T
  have G_row_of : FnOk P w K mg base CX0 6 A.f_row_of A.d_row_of ["flat"] (spRowOf C.p_row_of) := ok_row_of T B
  refine T.d_plain.F.ok sc_plain (fun vs H Q E h => ?_) (fun cdv A outer s H vs Q E hr h => ?_)
  · obtain ⟨p, n, a, k, xs, rs, rfl, _⟩ := h
    rfl
  · obtain ⟨p, n, a, k, xs, rs, rfl, hp, n20, ha, hrs, hl, tg, q⟩ := h
    refine ⟨_, (pss_cons (ps_set (i := 3) sc_plain.nd rfl (.inr rfl) (pe_call G_row_leads (hr.mono (by decide)) (by rfl) T.d_row_leads.g T.d_row_leads.F.kp T.d_row_leads.b .nil pass0 (pa_cons (pv 0) (pa_cons (pv 2) pa_nil))))
        (pss_one (ps_ret (pe_lock (pe_lc (own := [("place", 4)]) rfl sc_plain.nd (pi_keys (pv 3)) (blkOk_by (N := N_plain) (sc := defScope s_plain) (by decide +kernel)) (fun _ _ _ _ _ => (pg_name (i := 4) sc_plain.nd rfl (.inl rfl))) (fun _ _ _ _ _ => pts_nil) (fun _ _ _ _ _ => (pe_call G_row_of hr (by rfl) T.d_row_of.g T.d_row_of.F.kp T.d_row_of.b .nil pass0 (pa_cons (pe_dget (hu_of hr) (pv 3) (pv 4) (fun _ _ => rfl)) pa_nil)))))))), ?_⟩
    refine ⟨.int p, rfl, .ref a, rfl, p, n, a, k, xs, rs, rfl, hp, n20, ha, hrs, hl, fun d kvs L H1 s1 ed kv pl up => ?_⟩
    refine ⟨d, .dK kvs, ed, trivial, fun od => ?_⟩
    have kv0 := kv.lock (o := .frz od (.dK kvs)) ed
    have tg1 := s1.tb _ tg
    have tg0 : GxR.TabG (upd H1 d (.frz od (.dK kvs))) C.p_row_of := by
      obtain ⟨ps, e, z⟩ := tg1
      exact ⟨ps, by rw [upd_ne (ne_of e ed (by intro z; cases z))]; exact e, z⟩
    have hn := kv.len
    have lle := pl_le pl
    refine ⟨.ref d, rfl, d, od, rfl, .inl ⟨kvs, upd_same, fun D hD => ?_⟩⟩
    have nD : D ≠ d := fun z => by
      rw [z, upd_same] at hD
      cases hD
    have hD1 : H1 D = none := by
      rw [upd_ne nD] at hD
      exact hD
    refine lc_it walk_keys (fun i H' => Sm (upd H1 d (.frz od (.dK kvs))) H' ∧ H' d = some (.frz od (.dK kvs)) ∧ ∃ ys ss, H' D = some (.lst ys) ∧ Rws p n H' ys ss ∧ ss.map flatR = (L.take i).map (·.2)) ⟨.new hD, by rw [upd_ne nD.symm]; exact upd_same, [], [], upd_same, .nil, by simp⟩ (fun i H' _ h => h.2.1) ?_ ?_
    · rintro i x H2 H3 hi ⟨s2, e2, ys, ss, eD, hss, hf⟩ ⟨rfl, key, v, ek, rfl⟩
      have hi2 : i < L.length := by omega
      obtain ⟨b, eb, fb⟩ := (kv0.sm s2).get (i := i) (q := (L[i]).1) (us := (L[i]).2) (List.getElem?_eq_getElem hi2)
      rw [ek] at eb
      cases eb
      have m1 := List.getElem_mem hi2
      obtain ⟨c, ec, fc⟩ := (kv0.sm s2).val pl.nd (q := (L[i]).1) (us := (L[i]).2) m1
      have ul := pl.len _ m1
      obtain ⟨rf, rrl⟩ := Lin.rowL_flat n (L[i]).2 ul
      refine ⟨rfl, .ref d, rfl, .int ((L[i]).1 : Nat), rfl, d, .ref c, rfl, .inl ⟨kvs, _, .inr ⟨od, e2⟩, rfl, ec.symm⟩, c, (L[i]).2, n, rfl, fc, ul, n20, s2.tb _ tg0, fun t H4 s4 w4 => ?_⟩
      have eD4 := s4.lst eD
      have inr : In p (Lin.rowL (L[i]).2) := fun u hu => by
        have k1 : u.1 ∈ flatR (Lin.rowL (L[i]).2) := List.mem_flatMap.mpr ⟨u, hu, by simp⟩
        have k2 : u.2 ∈ flatR (Lin.rowL (L[i]).2) := List.mem_flatMap.mpr ⟨u, hu, by simp⟩
        rw [rf] at k1 k2
        exact ⟨pl.rg _ m1 _ k1, pl.rg _ m1 _ k2⟩
      have hyl := hss.len
      have sl : ss.length = (L.take i).length := by
        have := congrArg List.length hf
        simpa using this
      rw [List.length_take] at sl
      refine ⟨ys, eD4, small (by omega), (s2.trans s4).put hD, ?_, ys ++ [.ref t], ss ++ [Lin.rowL (L[i]).2], upd_same, ((hss.sm s4).snoc ⟨w4, inr, rrl⟩).put eD4, ?_⟩
      · rw [upd_ne nD.symm]
        exact s4.kp _ _ (by intro ps z; cases z) e2
      · have e3 : L.take (i + 1) = L.take i ++ [L[i]] := by rw [List.take_append_getElem]
        rw [e3, List.map_append, List.map_append, hf]
        show _ ++ [flatR (Lin.rowL (L[i]).2)] = _
        rw [rf]
        rfl
    · rintro H2 ⟨s2, e2, ys, ss, eD, hss, hf⟩
      rw [hn, List.take_length] at hf
      refine ⟨e2, q D ys ss L _ (s1.trans (s2.unlock ed)) ((Nw.of hD1).sm s1) ?_ ?_ hf pl up⟩
      · rw [upd_ne nD]
        exact eD
      · refine ⟨hss.len, fun e => ?_, hss.fit⟩
        obtain ⟨b, r, h1, h2, ws, h3, h4⟩ := hss.get e
        refine ⟨b, r, h1, h2, ws, by rw [upd_ne (ne_of h3 e2 (by intro z; cases z))]; exact h3, h4.len, fun e3 => ?_⟩
        obtain ⟨u, h5, c, h6, h7⟩ := h4.get e3
        exact ⟨u, h5, c, h6, by rw [upd_ne (ne_of h7 e2 (by intro z; cases z))]; exact h7⟩
/-! ### a hold and a table that are drawn -/
theorem mod2 {n : Int} (h0 : 0 ≤ n) (h1 : n < 2) : n = 0 ∨ n = 1 := by omega
def spHold : Sp := fun vs H Q _ => ∃ (d g c : Addr) (k : Int) (m : Nat), vs = [.ref d, .int m] ∧ Dk d g c k H ∧ k ≤ 900000 ∧ m ≤ 10 ∧
  ∀ (t : Addr) (hs : List Int) (H' : Hp), (∀ n ∈ hs, n = 0 ∨ n = 1) → hs.length = m → H' t = some (.tup (hs.map V.int)) → Dk d g c (k + m) H' → Fr d g H H' → Q (.ref t) H'
theorem ok__law_hold (T : Tx K mg A) : FnOk P w K mg base CX0 2 A.f__law_hold A.d__law_hold ["_law_deck_here", "_law_posts"] spHold := by
  have G__law_next : FnOk P w K mg base CX0 1 A.f__law_next A.d__law_next ["_law_deck_here", "_law_many"] spNext := ok__law_next T
  refine T.d__law_hold.F.ok sc__law_hold (fun vs H Q E h => ?_) (fun cdv A outer s H vs Q E hr h => ?_)
  · obtain ⟨d, g, c, k, m, rfl, _⟩ := h
    rfl
  · obtain ⟨d, g, c, k, m, rfl, D0, hk, hm, q⟩ := h
    refine ⟨_, (pss_one (ps_ret (pe_callTy call_tuple_of (by rfl) T.b_tuple PyProof.Rows.boot_tuple (pa_cons (pe_lc (own := [("_law_k", 2)]) rfl sc__law_hold.nd (pi_range1 (by rfl) T.b_range (pa_cons (pv 1) pa_nil)) (blkOk_by (N := N__law_hold) (sc := defScope s__law_hold) (by decide +kernel)) (fun _ _ _ _ _ => (pg_name (i := 2) sc__law_hold.nd rfl (.inl rfl))) (fun _ _ _ _ _ => pts_nil) (fun _ _ _ _ _ => (pe_call G__law_next hr (by rfl) T.d__law_next.g T.d__law_next.F.kp T.d__law_next.b .nil pass0 (pa_cons (pv 0) (pa_cons pe_int pa_nil))))) pa_nil)))), ?_⟩
    refine ⟨.int m, rfl, m, rfl, by omega, by omega, fun L hL => lc_range (fun i H' => Dk d g c (k + i) H' ∧ Fr d g H H' ∧ ∃ ns : List Int, (∀ n ∈ ns, n = 0 ∨ n = 1) ∧ ns.length = i ∧ H' L = some (.lst (ns.map V.int))) ⟨(D0.same (same_upd hL)).mono (by omega), .new hL, [], by simp, rfl, upd_same⟩ ?_ ?_⟩
    · rintro i H1 hi ⟨D1, f1, ns, hns, hlen, eL⟩
      rw [Int.toNat_natCast] at hi
      have nL := D0.nd hL
      refine ⟨rfl, .ref d, rfl, d, g, c, _, 2, rfl, by decide, by decide, D1, by omega, fun r H2 r0 r1 D2 f2 => ?_⟩
      have eL2 := f2 L _ nL.1 nL.2.1 eL
      refine ⟨_, eL2, by rw [List.length_map]; exact small (by omega), (D2.put nL.1 nL.2.1 nL.2.2).mono (by omega), fun b o e1 e2 e => ?_, ns ++ [r], ?_, by rw [List.length_append, hlen]; rfl, by rw [upd_same, List.map_append]; rfl⟩
      · rw [upd_ne (ne_of_none e hL)]
        exact f2 _ _ e1 e2 (f1 _ _ e1 e2 e)
      · intro n hn
        rcases List.mem_append.mp hn with hn | hn
        · exact hns n hn
        · rw [List.mem_singleton.mp hn]
          exact mod2 r0 r1
    · rintro H1 ⟨D1, f1, ns, hns, hlen, eL⟩
      rw [Int.toNat_natCast] at hlen D1
      exact ⟨L, _, rfl, .inl ⟨SqL.of eL, fun t ht => q t ns _ hns hlen upd_same (D1.same (same_upd ht)) (f1.trans (.new ht))⟩⟩
/-! ### tables -/
theorem get_snoc {α : Type} {xs : List α} {x y : α} {i : Nat} (e : (xs ++ [x])[i]? = some y) : (i < xs.length ∧ xs[i]? = some y) ∨ (i = xs.length ∧ y = x) := by
  by_cases h : i < xs.length
  · rw [List.getElem?_append_left h] at e
    exact .inl ⟨h, e⟩
  · rw [List.getElem?_append_right (by omega)] at e
    have : i - xs.length = 0 := by
      have := (List.getElem?_eq_some_iff.mp e).1
      simp at this
      exact this
    rw [this] at e
    cases e
    exact .inr ⟨by omega, rfl⟩
theorem snoc_at {α : Type} {xs : List α} {x : α} : (xs ++ [x])[xs.length]? = some x := by
  rw [List.getElem?_append_right (Nat.le_refl _), Nat.sub_self]
  rfl
structure Trs (H : Hp) (ys : List V) (rs : List (List Int)) : Prop where
  len : ys.length = rs.length
  get : ∀ {i : Nat} {y : V}, ys[i]? = some y → ∃ e r, y = .ref e ∧ rs[i]? = some r ∧ H e = some (.tup (r.map V.int))
theorem Trs.same {H H' : Hp} {ys : List V} {rs : List (List Int)} (h : Trs H ys rs) (s : Same H H') : Trs H' ys rs := ⟨h.len, fun e => let ⟨a, r, h1, h2, h3⟩ := h.get e; ⟨a, r, h1, h2, s _ _ h3⟩⟩
theorem nd_inj {as : List Addr} (h : as.Nodup) {i j : Nat} {a : Addr} (h1 : as[i]? = some a) (h2 : as[j]? = some a) : i = j := by
  obtain ⟨hi, e1⟩ := List.getElem?_eq_some_iff.mp h1
  obtain ⟨hj, e2⟩ := List.getElem?_eq_some_iff.mp h2
  have pw := List.pairwise_iff_getElem.mp h
  rcases Nat.lt_trichotomy i j with l | l | l
  · exact absurd (e1.trans e2.symm) (pw i j hi hj l)
  · exact l
  · exact absurd (e2.trans e1.symm) (pw j i hj hi l)
structure Grid (p : Int) (H0 : Hp) (d g c F : Addr) (m : Nat) (H : Hp) (as : List Addr) (rs : List (List Int)) : Prop where
  len : as.length = rs.length
  nd : as.Nodup
  get : ∀ {i : Nat} {a : Addr}, as[i]? = some a → ∃ r, rs[i]? = some r ∧ H a = some (.lst (r.map V.int))
  ok : ∀ r ∈ rs, r.length = m ∧ Rg p r
  ne : ∀ a ∈ as, a ≠ d ∧ a ≠ g ∧ a ≠ c ∧ a ≠ F ∧ H0 a = none
theorem Grid.fr {p : Int} {H0 H H' : Hp} {d g c F : Addr} {m : Nat} {as : List Addr} {rs : List (List Int)} (h : Grid p H0 d g c F m H as rs) (f : Fr d g H H') : Grid p H0 d g c F m H' as rs := ⟨h.len, h.nd, fun e => let ⟨r, h1, h2⟩ := h.get e; ⟨r, h1, f _ _ (h.ne _ (List.mem_of_getElem? e)).1 (h.ne _ (List.mem_of_getElem? e)).2.1 h2⟩, h.ok, h.ne⟩
theorem Grid.putF {p : Int} {H0 H : Hp} {d g c F : Addr} {m : Nat} {as : List Addr} {rs : List (List Int)} {o : HO} (h : Grid p H0 d g c F m H as rs) : Grid p H0 d g c F m (upd H F o) as rs := ⟨h.len, h.nd, fun e => let ⟨r, h1, h2⟩ := h.get e; ⟨r, h1, by rw [upd_ne (h.ne _ (List.mem_of_getElem? e)).2.2.2.1]; exact h2⟩, h.ok, h.ne⟩
theorem Grid.set {p : Int} {H0 H : Hp} {d g c F : Addr} {m : Nat} {as : List Addr} {rs : List (List Int)} (h : Grid p H0 d g c F m H as rs) {i j : Nat} {a : Addr} {r : List Int} {n : Int} (ea : as[i]? = some a) (er : rs[i]? = some r) (hn : 0 ≤ n ∧ n < p) : Grid p H0 d g c F m (upd H a (.lst ((r.map V.int).set j (.int n)))) as (rs.set i (r.set j n)) := by
  have hi : i < rs.length := (List.getElem?_eq_some_iff.mp er).1
  refine ⟨by rw [List.length_set, h.len], h.nd, fun {i' b} e => ?_, fun x hx => ?_, h.ne⟩
  · by_cases e2 : i' = i
    · subst e2
      rw [ea] at e
      cases e
      exact ⟨r.set j n, by rw [List.getElem?_set_self hi], by rw [upd_same, List.map_set]⟩
    · obtain ⟨r', h1, h2⟩ := h.get e
      have nb : b ≠ a := fun z => by
        rw [z] at e
        exact e2 (nd_inj h.nd e ea)
      refine ⟨r', by rw [List.getElem?_set_ne (fun z => e2 z.symm)]; exact h1, by rw [upd_ne nb]; exact h2⟩
  · rcases List.mem_or_eq_of_mem_set hx with m1 | m1
    · exact h.ok x m1
    · rw [m1]
      obtain ⟨l1, l2⟩ := h.ok r (List.mem_of_getElem? er)
      refine ⟨by rw [List.length_set]; exact l1, fun y hy => ?_⟩
      rcases List.mem_or_eq_of_mem_set hy with m2 | m2
      · exact l2 y m2
      · rw [m2]
        exact hn
def spTab : Sp := fun vs H Q _ => ∃ (d g c : Addr) (k p : Int) (m : Nat), vs = [.ref d, .int p, .int m] ∧ Dk d g c k H ∧ k ≤ 900000 ∧ 2 ≤ p ∧ p ≤ 13 ∧ m ≤ 10 ∧
  ∀ (t : Addr) (ys : List V) (rs : List (List Int)) (H' : Hp), H' t = some (.tup ys) → Trs H' ys rs → rs.length = m → (∀ r ∈ rs, r.length = m ∧ Rg p r) → Lin.Sy rs → Dk d g c (k + 220) H' → Fr d g H H' → Q (.ref t) H'
theorem col_set {rs : List (List Int)} {i j : Nat} {q : List Int} {n : Int} (er : rs[i]? = some q) (hj : j < q.length) (a b : Nat) : Lin.col (rs.set i (q.set j n)) b a = if a = i ∧ b = j then n else Lin.col rs b a := by
  have hi : i < rs.length := (List.getElem?_eq_some_iff.mp er).1
  unfold Lin.col
  rw [List.getD_eq_getElem?_getD, List.getD_eq_getElem?_getD]
  by_cases e : a = i
  · subst e
    rw [List.getElem?_set_self hi, er]
    show vec (q.set j n) b = if a = a ∧ b = j then n else vec q b
    rw [vec_set hj]
    by_cases z : b = j
    · rw [if_pos z, if_pos ⟨rfl, z⟩]
    · rw [if_neg z, if_neg (fun w => z w.2)]
  · rw [List.getElem?_set_ne (fun z => e z.symm), if_neg (fun w => e w.1)]
theorem sy_set {rs : List (List Int)} {i j : Nat} {q1 q2 : List Int} {n : Int} (h : Lin.Sy rs) (e1 : rs[i]? = some q1) (l1 : j < q1.length) (e2 : (rs.set i (q1.set j n))[j]? = some q2) (l2 : i < q2.length) : Lin.Sy ((rs.set i (q1.set j n)).set j (q2.set i n)) := fun a b => by
  rw [col_set e2 l2, col_set e1 l1, col_set e2 l2, col_set e1 l1, h a b]
  by_cases x : a = j ∧ b = i
  · rw [if_pos x]
    by_cases y : b = j ∧ a = i
    · rw [if_pos y]
    · rw [if_neg y, if_pos ⟨x.2, x.1⟩]
  · rw [if_neg x]
    by_cases y : b = j ∧ a = i
    · rw [if_pos y, if_pos ⟨y.2, y.1⟩]
    · rw [if_neg y, if_neg (fun z => y ⟨z.2, z.1⟩), if_neg (fun z => x ⟨z.2, z.1⟩)]
theorem sy_zero {i m : Nat} : Lin.Sy (List.replicate i (List.replicate m 0)) := fun a b => by
  have z : ∀ a b, Lin.col (List.replicate i (List.replicate m 0)) b a = 0 := fun a b => by
    unfold Lin.col
    rw [List.getD_eq_getElem?_getD, List.getElem?_replicate]
    split
    · show (List.replicate m (0 : Int)).getD b 0 = 0
      rw [List.getD_eq_getElem?_getD, List.getElem?_replicate]
      split <;> rfl
    · rfl
  rw [z, z]
set_option maxHeartbeats 2000000 in
theorem ok__law_table (T : Tx K mg A) : FnOk P w K mg base CX0 2 A.f__law_table A.d__law_table ["_law_deck_here", "_law_p", "_law_posts"] spTab := by
  have G__law_next : FnOk P w K mg base CX0 1 A.f__law_next A.d__law_next ["_law_deck_here", "_law_many"] spNext := ok__law_next T
  refine T.d__law_table.F.ok sc__law_table (fun vs H Q E h => ?_) (fun cdv A outer s H vs Q E hr h => ?_)
  · obtain ⟨d, g, c, k, p, m, rfl, _⟩ := h
    rfl
  · obtain ⟨d, g, c, k, p, m, rfl, D0, hk, p2, p13, hm, q⟩ := h
    refine ⟨_, (pss_cons (ps_setLc (i := 3) (own := [("_law_k", 4)]) rfl sc__law_table.nd rfl rfl (sw_true rfl rfl rfl (by decide +kernel)) (pi_range1 (by rfl) T.b_range (pa_cons (pv 2) pa_nil)) (blkOk_by (N := N__law_table) (sc := defScope s__law_table) (by decide +kernel)) (fun _ _ _ _ _ => (pg_name (i := 4) sc__law_table.nd rfl (.inl rfl))) (fun _ _ _ _ _ => pts_nil) (fun _ _ _ _ _ => (pe_op op_rep (pe_lst (pa_cons pe_int pa_nil)) (pv 2))))
        (pss_cons (ps_for PassesOwn.never rfl (pi_range1 (by rfl) T.b_range (pa_cons (pv 2) pa_nil)) (pg_name (i := 4) sc__law_table.nd rfl (.inl rfl))
        (pss_one (ps_for PassesOwn.never rfl (pi_range2 (by rfl) T.b_range (pa_cons (pv 4) (pa_cons (pv 2) pa_nil))) (pg_name (i := 5) sc__law_table.nd rfl (.inl rfl))
        (pss_cons (ps_set (i := 6) sc__law_table.nd rfl (.inl rfl) (pe_op op_mul (pe_call G__law_next hr (by rfl) T.d__law_next.g T.d__law_next.F.kp T.d__law_next.b .nil pass0 (pa_cons (pv 0) (pa_cons (pv 1) pa_nil))) (pe_callTy call_int1 (by rfl) T.b_int PyProof.Rows.boot_int (pa_cons (pe_cmpR op_gt (pe_call G__law_next hr (by rfl) T.d__law_next.g T.d__law_next.F.kp T.d__law_next.b .nil pass0 (pa_cons (pv 0) (pa_cons pe_int pa_nil))) pe_int (nomark _)) pa_nil))))
        (pss_cons (ps_asg (pv 6) (pg_sub (pe_ix ix_list (pv 3) (pv 4) (fun _ _ => rfl)) (pv 5) set_list))
        (pss_one (ps_asg (pv 6) (pg_sub (pe_ix ix_list (pv 3) (pv 5) (fun _ _ => rfl)) (pv 4) set_list))))))))
        (pss_one (ps_ret (pe_callTy call_tuple_of (by rfl) T.b_tuple PyProof.Rows.boot_tuple (pa_cons (pe_lc (own := [("_law_row", 7)]) rfl sc__law_table.nd (pi_list (pv 3)) (blkOk_by (N := N__law_table) (sc := defScope s__law_table) (by decide +kernel)) (fun _ _ _ _ _ => (pg_name (i := 7) sc__law_table.nd rfl (.inl rfl))) (fun _ _ _ _ _ => pts_nil) (fun _ _ _ _ _ => (pe_callTy (show CallR _ _ (rTupOf K) from call_tuple_of) (by rfl) T.b_tuple PyProof.Rows.boot_tuple (pa_cons (pv 7) pa_nil)))) pa_nil)))))), ?_⟩
    refine ⟨.int m, rfl, m, rfl, by omega, by omega, fun F hF => lc_range (fun i H' => Same H H' ∧ ∃ as, H' F = some (.lst (as.map V.ref)) ∧ as.length = i ∧ Grid p H d g c F m H' as (List.replicate i (List.replicate m 0))) ⟨same_upd hF, [], upd_same, rfl, ⟨rfl, List.nodup_nil, fun e => by simp at e, fun r hr => by simp at hr, fun a ha => by cases ha⟩⟩ ?_ ?_⟩
    · rintro i H1 hi ⟨s1, as, eF, al, gr⟩
      rw [Int.toNat_natCast] at hi
      have D1 := D0.same s1
      refine ⟨rfl, (by show 1 ≤ sizeLine; decide), fun a1 h1 => ⟨.int m, rfl, a1, _, _, rfl, rfl, upd_same, by omega, by omega, ?_, fun a2 h2 => ?_⟩⟩
      · exact Nat.le_of_lt (small (by show 1 * ((m : Nat) : Int).toNat ≤ 1000; omega))
      rw [rep_one, Int.toNat_natCast]
      have S2 : Same H1 (upd (upd H1 a1 (.lst [.int 0])) a2 (.lst (List.replicate m (V.int 0)))) := (same_upd h1).trans (same_upd h2)
      have n2 := (D1.same (same_upd (o := .lst [.int 0]) h1)).nd h2
      have h2' : H1 a2 = none := (same_upd h1).free h2
      have h2'' : H a2 = none := s1.free h2'
      have nF : F ≠ a2 := ne_of_none eF h2'
      have e2 : upd (upd H1 a1 (.lst [.int 0])) a2 (.lst (List.replicate m (V.int 0))) a2 = some (.lst (List.replicate m (V.int 0))) := upd_same
      have eF2 := S2 _ _ eF
      have gr2 := gr.fr (Fr.of_same S2)
      generalize upd (upd H1 a1 (.lst [.int 0])) a2 (.lst (List.replicate m (V.int 0))) = H2 at S2 e2 eF2 gr2 ⊢
      refine ⟨_, eF2, by rw [List.length_map]; exact small (by omega), same_put (s1.trans S2) hF, as ++ [a2], by rw [upd_same, List.map_append]; rfl, by rw [List.length_append, al]; rfl, ?_⟩
      refine ⟨by rw [List.length_append, al, List.length_replicate]; rfl, ?_, fun {j b} e => ?_, fun r hr' => ?_, fun b hb => ?_⟩
      · rw [List.nodup_append]
        refine ⟨gr.nd, by simp, fun x hx y hy => ?_⟩
        rw [List.mem_singleton.mp hy]
        intro z
        subst z
        obtain ⟨j, hj, ej⟩ := List.mem_iff_getElem.mp hx
        obtain ⟨r, _, h3⟩ := gr.get (List.getElem?_eq_getElem hj)
        rw [ej, h2'] at h3
        cases h3
      · rcases get_snoc e with ⟨hj, e⟩ | ⟨hj, rfl⟩
        · obtain ⟨r, h3, h4⟩ := gr2.putF (o := .lst (as.map V.ref ++ [V.ref a2])) |>.get e
          refine ⟨r, ?_, h4⟩
          rw [List.replicate_succ', List.getElem?_append_left (by rw [List.length_replicate]; omega)]
          exact h3
        · refine ⟨List.replicate m 0, ?_, by rw [upd_ne nF.symm, e2, List.map_replicate]⟩
          rw [hj, al, List.getElem?_replicate, if_pos (Nat.lt_succ_self i)]
      · rw [(List.mem_replicate.mp hr').2]
        exact ⟨List.length_replicate, fun n hn => by rw [(List.mem_replicate.mp hn).2]; omega⟩
      · rcases List.mem_append.mp hb with hb | hb
        · exact gr.ne b hb
        · rw [List.mem_singleton.mp hb]
          exact ⟨n2.1, n2.2.1, n2.2.2, nF.symm, h2''⟩
    · rintro H1 ⟨s1, as, eF, al, gr⟩
      rw [Int.toNat_natCast] at al gr
      have nF := D0.nd hF
      have D1 := D0.same s1
      refine ⟨.int m, rfl, m, rfl, by omega, by omega, for_range (fun i σ H' => ∃ v4 v5 v6 v7 rs, σ = [some (.ref d), some (.int p), some (.int m), some (.ref F), v4, v5, v6, v7] ∧ Dk d g c (k + 20 * i) H' ∧ Fr d g H H' ∧ H' F = some (.lst (as.map V.ref)) ∧ Grid p H d g c F m H' as rs ∧ Lin.Sy rs) ⟨_, _, _, _, _, rfl, D1.mono (by omega), .of_same s1, eF, gr, sy_zero⟩ ?_ ?_⟩
      · rintro i σ H2 hi ⟨v4, v5, v6, v7, rs, rfl, D2, f2, eF2, gr2, sy2⟩
        rw [Int.toNat_natCast] at hi
        have e0 : (0 + (i : Nat) : Int) = (i : Nat) := by omega
        rw [e0]
        refine ⟨.int (i : Nat), rfl, .int m, rfl, (i : Nat), m, rfl, ⟨by omega, by omega, by omega, by omega⟩, for_range (fun j σ H' => ∃ v5 v6 rs, σ = [some (.ref d), some (.int p), some (.int m), some (.ref F), some (.int (i : Nat)), v5, v6, v7] ∧ Dk d g c (k + 20 * i + 2 * j) H' ∧ Fr d g H H' ∧ H' F = some (.lst (as.map V.ref)) ∧ Grid p H d g c F m H' as rs ∧ Lin.Sy rs) ⟨_, _, _, rfl, D2.mono (by omega), f2, eF2, gr2, sy2⟩ ?_ ?_⟩
        · rintro j σ H3 hj ⟨v5, v6, rs, rfl, D3, f3, eF3, gr3, sy3⟩
          have hj' : i + j < m := by omega
          have e1 : ((i : Nat) + (j : Nat) : Int) = ((i + j : Nat) : Int) := by omega
          rw [e1]
          refine ⟨.ref d, rfl, .int p, rfl, d, g, c, _, p, rfl, by omega, by omega, D3, by omega, fun r H4 r0 r1 D4 f4 => ?_⟩
          refine ⟨.ref d, rfl, d, g, c, _, 3, rfl, by decide, by decide, D4, by omega, fun r2 H5 _ _ D5 f5 => ?_⟩
          have f35 := f4.trans f5
          have eF5 := f35 F _ nF.1 nF.2.1 eF3
          have gr5 := gr3.fr f35
          refine ⟨r2, 0, rfl, rfl, .inr ⟨_, rfl, r, _, rfl, rfl, .inl ⟨by omega, by omega⟩, ?_⟩⟩
          have hz : 0 ≤ r * (if decide (0 < r2) = true then 1 else 0) ∧ r * (if decide (0 < r2) = true then 1 else 0) < p := by
            cases decide (0 < r2) with
            | true => simp; omega
            | false => simp; omega
          dsimp only
          generalize r * (if decide (0 < r2) = true then 1 else 0) = n at hz ⊢
          have rl5 := gr5.len
          -- found[k][j]
          have ea1 : as[i]? = some as[i] := List.getElem?_eq_getElem (by omega)
          have ea2 : as[i + j]? = some as[i + j] := List.getElem?_eq_getElem (by omega)
          obtain ⟨q1, eq1, hq1⟩ := gr5.get ea1
          have ql1 := (gr5.ok q1 (List.mem_of_getElem? eq1)).1
          refine ⟨.int n, rfl, .ref F, rfl, .int (i : Nat), rfl, F, _, (i : Nat), .ref as[i], rfl, rfl, SqL.of eF5, atI_nat (by rw [List.getElem?_map, ea1]; rfl), .int ((i + j : Nat)), rfl, as[i], _, ((i + j : Nat) : Int), i + j, rfl, rfl, hq1, ixN_nat (by rw [List.length_map]; omega), ?_⟩
          have gr6 := gr5.set (j := i + j) ea1 eq1 hz
          have ne1 := gr5.ne _ (List.mem_of_getElem? ea1)
          have D6 := D5.put (o := .lst ((q1.map V.int).set (i + j) (.int n))) ne1.1 ne1.2.1 ne1.2.2.1
          have eF6 : upd H5 as[i] (.lst ((q1.map V.int).set (i + j) (.int n))) F = some (.lst (as.map V.ref)) := by
            rw [upd_ne ne1.2.2.2.1.symm]
            exact eF5
          have f6 : Fr d g H (upd H5 as[i] (.lst ((q1.map V.int).set (i + j) (.int n)))) := fun b o e1 e2 e => by
            rw [upd_ne (ne_of_none e ne1.2.2.2.2)]
            exact f35 _ _ e1 e2 (f3 _ _ e1 e2 e)
          generalize upd H5 as[i] (.lst ((q1.map V.int).set (i + j) (.int n))) = H6 at gr6 D6 eF6 f6 ⊢
          -- found[j][k]
          obtain ⟨q2, eq2, hq2⟩ := gr6.get ea2
          have ql2 := (gr6.ok q2 (List.mem_of_getElem? eq2)).1
          refine ⟨.int n, rfl, .ref F, rfl, .int ((i + j : Nat)), rfl, F, _, ((i + j : Nat) : Int), .ref as[i + j], rfl, rfl, SqL.of eF6, atI_nat (by rw [List.getElem?_map, ea2]; rfl), .int (i : Nat), rfl, as[i + j], _, (i : Nat), i, rfl, rfl, hq2, ixN_nat (by rw [List.length_map]; omega), ?_⟩
          have gr7 := gr6.set (j := i) ea2 eq2 hz
          have ne2 := gr6.ne _ (List.mem_of_getElem? ea2)
          have D7 := D6.put (o := .lst ((q2.map V.int).set i (.int n))) ne2.1 ne2.2.1 ne2.2.2.1
          refine ⟨_, _, _, rfl, D7.mono (by omega), fun b o e1 e2 e => ?_, ?_, gr7, sy_set sy3 eq1 (by omega) eq2 (by omega)⟩
          · rw [upd_ne (ne_of_none e ne2.2.2.2.2)]
            exact f6 _ _ e1 e2 e
          · rw [upd_ne ne2.2.2.2.1.symm]
            exact eF6
        · rintro σ H3 ⟨v5, v6, rs, rfl, D3, f3, eF3, gr3, sy3⟩
          exact ⟨_, _, _, _, _, rfl, D3.mono (by omega), f3, eF3, gr3, sy3⟩
      · rintro σ H2 ⟨v4, v5, v6, v7, rs, rfl, D2, f2, eF2, gr2, sy2⟩
        rw [Int.toNat_natCast] at D2
        have rl2 := gr2.len
        refine ⟨.ref F, rfl, F, rfl, ⟨_, SqL.of eF2⟩, fun D hD => lc_it (walk_list (xs := as.map V.ref)) (fun i H' => Same H2 H' ∧ ∃ ys, H' D = some (.lst ys) ∧ Trs H' ys (rs.take i)) ⟨same_upd hD, [], upd_same, rfl, fun e => by simp at e⟩ (fun i H' _ h => SqL.of (h.1 _ _ eF2)) ?_ ?_⟩
        · rintro i x H3 H4 hi ⟨s3, ys, eD, tr⟩ ⟨rfl, hx⟩
          rw [List.getElem?_map] at hx
          obtain ⟨a, ea, rfl⟩ := Option.map_eq_some_iff.mp hx
          obtain ⟨r, er, hr2⟩ := gr2.get ea
          have yl := tr.len
          rw [List.length_take] at yl
          have hi' : i < rs.length := (List.getElem?_eq_some_iff.mp er).1
          refine ⟨rfl, .ref a, rfl, a, _, rfl, .inl ⟨SqL.of (s3 _ _ hr2), fun t ht => ?_⟩⟩
          have nD : D ≠ t := ne_of_none eD ht
          have eD2 : upd H4 t (.tup (r.map V.int)) D = some (.lst ys) := by
            rw [upd_ne nD]
            exact eD
          refine ⟨ys, eD2, small (by omega), same_put (s3.trans (same_upd ht)) hD, ys ++ [.ref t], upd_same, ?_, fun {j y} e => ?_⟩
          · rw [List.length_append, List.length_take]
            show ys.length + 1 = _
            omega
          · rw [take_snoc er]
            rcases get_snoc e with ⟨hj, e⟩ | ⟨hj, rfl⟩
            · obtain ⟨b, r', h1, h2, h3⟩ := tr.get e
              refine ⟨b, r', h1, ?_, ?_⟩
              · rw [List.getElem?_append_left (by rw [List.length_take]; omega)]
                exact h2
              · rw [upd_ne (ne_of (same_upd (o := .tup (r.map V.int)) ht _ _ h3) eD2 (by intro z; cases z))]
                exact same_upd ht _ _ h3
            · refine ⟨t, r, rfl, ?_, by rw [upd_ne nD.symm]; exact upd_same⟩
              have e3 : (rs.take i).length = j := by rw [List.length_take]; omega
              rw [← e3]
              exact snoc_at
        · rintro H3 ⟨s3, ys, eD, tr⟩
          rw [List.length_map, List.take_of_length_le (by omega)] at tr
          refine ⟨D, _, rfl, .inl ⟨SqL.of eD, fun t ht => ?_⟩⟩
          exact q t ys rs _ upd_same (tr.same (same_upd ht)) (by omega) gr2.ok sy2 (((D2.same s3).same (same_upd ht)).mono (by omega)) ((f2.trans (.of_same s3)).trans (.new ht))
/-! ### stands by a hold and a table -/
structure HdAt (H : Hp) (t : Addr) (hs : List Int) : Prop where
  at_ : H t = some (.tup (hs.map V.int))
  bit : ∀ h ∈ hs, h = 0 ∨ h = 1
  len : hs.length ≤ 10
structure TbAt (p : Int) (m : Nat) (H : Hp) (t : Addr) (gs : List (List Int)) : Prop where
  at_ : ∃ ys, H t = some (.tup ys) ∧ Trs H ys gs
  len : gs.length = m
  ok : ∀ r ∈ gs, r.length = m ∧ Rg p r
  sy : Lin.Sy gs
theorem HdAt.same {H H' : Hp} {t : Addr} {hs : List Int} (h : HdAt H t hs) (s : Same H H') : HdAt H' t hs := ⟨s _ _ h.at_, h.bit, h.len⟩
theorem TbAt.same {p : Int} {m : Nat} {H H' : Hp} {t : Addr} {gs : List (List Int)} (h : TbAt p m H t gs) (s : Same H H') : TbAt p m H' t gs := ⟨let ⟨ys, e, r⟩ := h.at_; ⟨ys, s _ _ e, r.same s⟩, h.len, h.ok, h.sy⟩
theorem HdAt.fr {d g c : Addr} {k : Int} {H H' : Hp} {t : Addr} {hs : List Int} (h : HdAt H t hs) (D : Dk d g c k H) (f : Fr d g H H') : HdAt H' t hs := ⟨f.tup D h.at_, h.bit, h.len⟩
theorem TbAt.fr {d g c : Addr} {k : Int} {p : Int} {m : Nat} {H H' : Hp} {t : Addr} {gs : List (List Int)} (h : TbAt p m H t gs) (D : Dk d g c k H) (f : Fr d g H H') : TbAt p m H' t gs := ⟨let ⟨ys, e, r⟩ := h.at_; ⟨ys, f.tup D e, ⟨r.len, fun e => let ⟨a, u, h1, h2, h3⟩ := r.get e; ⟨a, u, h1, h2, f.tup D h3⟩⟩⟩, h.len, h.ok, h.sy⟩
theorem vec_get {us : List Int} {i : Nat} (h : i < us.length) : us[i]? = some (vec us i) := by
  have e := List.getElem?_eq_getElem h
  rw [e, Lin.vec_some e]
theorem bit_at {hs : List Int} (h : ∀ x ∈ hs, x = 0 ∨ x = 1) (j : Nat) : vec hs j = 0 ∨ vec hs j = 1 := by
  cases e : hs[j]? with
  | none =>
    left
    show hs.getD j 0 = 0
    rw [List.getD_eq_getElem?_getD, e]
    rfl
  | some x =>
    rw [Lin.vec_some e]
    exact h x (List.mem_of_getElem? e)
def spStand : Sp := fun vs H Q _ => ∃ (p : Int) (t1 t2 t3 : Addr) (hs : List Int) (gs : List (List Int)) (ns : List Int), vs = [.int p, .ref t1, .ref t2, .ref t3] ∧ 0 < p ∧ p ≤ 13 ∧ HdAt H t1 hs ∧ TbAt p hs.length H t2 gs ∧ H t3 = some (.tup (ns.map V.int)) ∧ ns.length = hs.length ∧ Rg p ns ∧
  ∀ t H', Same H H' → Rk p hs.length H' t (Lin.stP p hs gs ns) → Q (.ref t) H'
set_option maxHeartbeats 1000000 in
theorem ok__law_stand (T : Tx K mg A) : FnOk P w K mg base CX0 1 A.f__law_stand A.d__law_stand ["_law_p", "_law_hold_here", "_law_grid", "_law_held"] spStand := by
  refine T.d__law_stand.F.ok sc__law_stand (fun vs H Q E h => ?_) (fun cdv A outer s H vs Q E hr h => ?_)
  · obtain ⟨p, t1, t2, t3, hs, gs, ns, rfl, _⟩ := h
    rfl
  · obtain ⟨p, t1, t2, t3, hs, gs, ns, rfl, p0, p13, hh, ht, hn, nl, rg, q⟩ := h
    obtain ⟨ys, hy, tr⟩ := ht.at_
    have hl := hh.len
    have gl := ht.len
    refine ⟨_, (pss_cons (ps_set (i := 4) sc__law_stand.nd rfl (.inl rfl) (pe_lst pa_nil))
        (pss_cons (ps_for PassesOwn.never rfl (pi_range1 (by rfl) T.b_range (pa_cons (pe_callB call_len_seq (by rfl) T.b_len PySem.boot_len (pa_cons (pv 1) pa_nil)) pa_nil)) (pg_name (i := 5) sc__law_stand.nd rfl (.inr rfl))
        (pss_cons (ps_set (i := 6) sc__law_stand.nd rfl (.inl rfl) (pe_op op_mod (pe_callB (cr_sum rfl) (by rfl) T.b_sum PyProof.Rows.boot_sum (pa_cons (pe_lc (own := [("_law_k", 7)]) rfl sc__law_stand.nd (pi_range1 (by rfl) T.b_range (pa_cons (pe_callB call_len_seq (by rfl) T.b_len PySem.boot_len (pa_cons (pv 1) pa_nil)) pa_nil)) (blkOk_by (N := N__law_stand) (sc := defScope s__law_stand) (by decide +kernel)) (fun _ _ _ _ _ => (pg_name (i := 7) sc__law_stand.nd rfl (.inl rfl))) (fun _ _ _ _ _ => pts_nil) (fun _ _ _ _ _ => (pe_op op_mul (pe_ix (show IxR _ (rIxT K) from ix_tup) (pv 3) (pv 7) (fun _ _ => rfl)) (pe_ix (show IxR _ (rIxT K) from ix_tup) (pe_ix (show IxR _ (rIxT K) from ix_tup) (pv 2) (pv 7) (fun _ _ => rfl)) (pv 5) (fun _ _ => rfl))))) pa_nil)) (pv 0)))
        (pss_one (ps_expr (pe_bm PySem.F.plainAttrs_list PySem.F.slot_list_append PySem.F.type_list_append mt_append (pv 4) (pa_cons (pe_ix ix_list (pe_lst (pa_cons (pe_tup (pa_cons (pe_ix ix_tup (pv 3) (pv 5) (fun _ _ => rfl)) (pa_cons (pv 6) pa_nil))) (pa_cons (pe_tup (pa_cons (pe_op op_mod (pe_op op_sub pe_int (pv 6)) (pv 0)) (pa_cons (pe_ix ix_tup (pv 3) (pv 5) (fun _ _ => rfl)) pa_nil))) pa_nil))) (pe_ix ix_tup (pv 1) (pv 5) (fun _ _ => rfl)) (fun _ _ => rfl)) pa_nil))))))
        (pss_one (ps_ret (pe_callTy call_tuple_of (by rfl) T.b_tuple PyProof.Rows.boot_tuple (pa_cons (pv 4) pa_nil)))))), ?_⟩
    refine ⟨Nat.zero_le _, fun F hF => ?_⟩
    have s0 : Same H (upd H F (.lst [])) := same_upd hF
    refine ⟨.ref t1, rfl, t1, _, rfl, .inr (SqT.of (s0 _ _ hh.at_)), _, rfl, by omega, by rw [List.length_map]; omega, for_range (fun j σ H' => ∃ v5 v6, σ = [some (.int p), some (.ref t1), some (.ref t2), some (.ref t3), some (.ref F), v5, v6, none] ∧ Same H H' ∧ ∃ zs, H' F = some (.lst zs) ∧ Prs H' zs ((Lin.stP p hs gs ns).take j)) ⟨_, _, rfl, s0, [], upd_same, by simpa using Prs.nil⟩ ?_ ?_⟩
    · rintro j σ H1 hj ⟨v5, v6, rfl, s1, zs, eF, hz⟩
      rw [List.length_map, Int.toNat_natCast] at hj
      have e0 : (0 + (j : Nat) : Int) = (j : Nat) := by omega
      rw [e0]
      have zl := hz.len
      rw [List.length_take, Lin.st_len] at zl
      refine ⟨.ref t1, rfl, t1, _, rfl, .inr (SqT.of (s1 _ _ hh.at_)), _, rfl, by omega, by rw [List.length_map]; omega, fun D hD => lc_range (fun i H' => Same H1 H' ∧ H' D = some (.lst (((List.range i).map fun k => vec ns k * Lin.col gs j k).map V.int))) ⟨same_upd hD, upd_same⟩ ?_ ?_⟩
      · rintro i H2 hi ⟨s2, eD⟩
        rw [List.length_map, Int.toNat_natCast] at hi
        have s12 := s1.trans s2
        have i0 : (0 + (i : Nat) : Int) = (i : Nat) := by omega
        have hiy : i < ys.length := by
          have := tr.len
          omega
        have eyi : ys[i]? = some ys[i] := List.getElem?_eq_getElem hiy
        obtain ⟨a, r, ea, er, ha⟩ := tr.get eyi
        have hr' := ht.ok r (List.mem_of_getElem? er)
        have ec : Lin.col gs j i = vec r j := by
          unfold Lin.col
          rw [List.getD_eq_getElem?_getD, er]
          rfl
        have vn := rg.vec p0 i
        rw [i0]
        refine ⟨rfl, .ref t3, rfl, .int (i : Nat), rfl, t3, _, (i : Nat), .int (vec ns i), rfl, rfl, SqT.of (s12 _ _ hn), atI_nat (by rw [List.getElem?_map, vec_get (by omega)]; rfl), .ref t2, rfl, .int (i : Nat), rfl, t2, _, (i : Nat), .ref a, rfl, rfl, SqT.of (s12 _ _ hy), atI_nat (by rw [eyi, ea]), .int (j : Nat), rfl, a, _, (j : Nat), .int (vec r j), rfl, rfl, SqT.of (s12 _ _ ha), atI_nat (by rw [List.getElem?_map, vec_get (by omega)]; rfl), vec ns i, vec r j, rfl, rfl, cmul ⟨vn.1, by omega⟩, _, eD, ?_, same_put s2 hD, ?_⟩
        · rw [List.length_map, List.length_map, List.length_range]
          exact small (by omega)
        · rw [upd_same, List.range_succ, List.map_append, List.map_append, ← ec]
          rfl
      · rintro H2 ⟨s2, eD⟩
        rw [List.length_map, Int.toNat_natCast] at eD
        have tv : (((List.range hs.length).map fun k => vec ns k * Lin.col gs j k)).sum = Lin.toldV gs (vec ns) hs.length j := Lin.sum_range _ _ _
        have s12 := s1.trans s2
        refine ⟨D, _, rfl, SqL.of eD, .int p, rfl, _, p, rfl, rfl, p0, ?_⟩
        rw [tv]
        have eF2 := s2 _ _ eF
        have eg := Lin.st_get (p := p) (gs := gs) (ns := ns) hj
        generalize Lin.toldV gs (vec ns) hs.length j = tl at eg ⊢
        refine ⟨.ref F, rfl, .inl ⟨rfl, _, SqL.of eF2⟩, .ref t3, rfl, .int (j : Nat), rfl, t3, _, (j : Nat), .int (vec ns j), rfl, rfl, SqT.of (s12 _ _ hn), atI_nat (by rw [List.getElem?_map, vec_get (by omega)]; rfl), .int (tl % p), rfl, (by show 2 ≤ sizeLine; decide), fun q1 hq1 => ?_⟩
        have s3 : Same H (upd H2 q1 (.tup [.int (vec ns j), .int (tl % p)])) := s12.trans (same_upd hq1)
        refine ⟨.int (tl % p), rfl, 0, _, rfl, rfl, .int p, rfl, _, p, rfl, rfl, p0, .ref t3, rfl, .int (j : Nat), rfl, t3, _, (j : Nat), .int (vec ns j), rfl, rfl, SqT.of (s3 _ _ hn), atI_nat (by rw [List.getElem?_map, vec_get (by omega)]; rfl), (by show 2 ≤ sizeLine; decide), fun q2 hq2 => ⟨(by show 2 ≤ sizeLine; decide), fun q3 hq3 => ?_⟩⟩
        have s4 : Same H2 (upd (upd (upd H2 q1 (.tup [.int (vec ns j), .int (tl % p)])) q2 (.tup [.int ((0 - tl % p) % p), .int (vec ns j)])) q3 (.lst [.ref q1, .ref q2])) := ((same_upd hq1).trans (same_upd hq2)).trans (same_upd hq3)
        have eq1 : upd (upd (upd H2 q1 (.tup [.int (vec ns j), .int (tl % p)])) q2 (.tup [.int ((0 - tl % p) % p), .int (vec ns j)])) q3 (.lst [.ref q1, .ref q2]) q1 = some (.tup [.int (vec ns j), .int (tl % p)]) := same_upd hq3 _ _ (same_upd hq2 _ _ upd_same)
        have eq2 : upd (upd (upd H2 q1 (.tup [.int (vec ns j), .int (tl % p)])) q2 (.tup [.int ((0 - tl % p) % p), .int (vec ns j)])) q3 (.lst [.ref q1, .ref q2]) q2 = some (.tup [.int ((0 - tl % p) % p), .int (vec ns j)]) := same_upd hq3 _ _ upd_same
        have eq3 : upd (upd (upd H2 q1 (.tup [.int (vec ns j), .int (tl % p)])) q2 (.tup [.int ((0 - tl % p) % p), .int (vec ns j)])) q3 (.lst [.ref q1, .ref q2]) q3 = some (.lst [.ref q1, .ref q2]) := upd_same
        generalize upd (upd (upd H2 q1 (.tup [.int (vec ns j), .int (tl % p)])) q2 (.tup [.int ((0 - tl % p) % p), .int (vec ns j)])) q3 (.lst [.ref q1, .ref q2]) = H3 at s4 eq1 eq2 eq3 ⊢
        have s14 := s12.trans s4
        have eF3 := s4 _ _ eF2
        obtain ⟨qx, ux, ex, px, ux_⟩ : ∃ (qx : Addr) (ux : Int × Int), atI [V.ref q1, V.ref q2] (vec hs j) = some (.ref qx) ∧ H3 qx = some (.tup [.int ux.1, .int ux.2]) ∧ (Lin.stP p hs gs ns)[j]? = some ux := by
          rcases bit_at hh.bit j with z | z
          · rw [if_pos z] at eg
            rw [z]
            exact ⟨q1, _, rfl, eq1, eg⟩
          · rw [if_neg (by rw [z]; decide)] at eg
            rw [z]
            exact ⟨q2, _, rfl, eq2, eg⟩
        refine ⟨.ref t1, rfl, .int (j : Nat), rfl, t1, _, (j : Nat), .int (vec hs j), rfl, rfl, SqT.of (s14 _ _ hh.at_), atI_nat (by rw [List.getElem?_map, vec_get (by omega)]; rfl), q3, _, _, .ref qx, rfl, rfl, SqL.of eq3, ex, F, zs, .ref qx, rfl, rfl, eF3, small (by omega), ?_⟩
        refine ⟨_, _, rfl, same_put s14 hF, zs ++ [.ref qx], upd_same, ?_⟩
        rw [take_snoc ux_]
        exact ((hz.sm (.of_same (s2.trans s4))).snoc ⟨qx, rfl, px⟩).put eF3
    · rintro σ H1 ⟨v5, v6, rfl, s1, zs, eF, hz⟩
      rw [List.length_map, Int.toNat_natCast, List.take_of_length_le (by rw [Lin.st_len]; exact Nat.le_refl _)] at hz
      refine ⟨.ref F, rfl, F, _, rfl, .inl ⟨SqL.of eF, fun t ht' => ?_⟩⟩
      exact q t _ (s1.trans (same_upd ht')) ⟨⟨zs, upd_same, hz.sm (.new ht')⟩, Lin.st_in p0 rg, Lin.st_len⟩
def spUnits : Sp := fun vs H Q _ => ∃ (p : Int) (t1 t2 : Addr) (hs : List Int) (gs : List (List Int)), vs = [.int p, .ref t1, .ref t2] ∧ 1 < p ∧ p ≤ 13 ∧ HdAt H t1 hs ∧ TbAt p hs.length H t2 gs ∧
  ∀ t xs H', Same H H' → H' t = some (.tup xs) → Rws p hs.length H' xs (Lin.unitsP p hs gs) → Q (.ref t) H'
theorem ok__law_units (T : Tx K mg A) : FnOk P w K mg base CX0 2 A.f__law_units A.d__law_units ["_law_p", "_law_hold_here", "_law_grid"] spUnits := by
  have G__law_stand : FnOk P w K mg base CX0 1 A.f__law_stand A.d__law_stand ["_law_p", "_law_hold_here", "_law_grid", "_law_held"] spStand := ok__law_stand T
  refine T.d__law_units.F.ok sc__law_units (fun vs H Q E h => ?_) (fun cdv A outer s H vs Q E hr h => ?_)
  · obtain ⟨p, t1, t2, hs, gs, rfl, _⟩ := h
    rfl
  · obtain ⟨p, t1, t2, hs, gs, rfl, p1, p13, hh, ht, q⟩ := h
    have hl := hh.len
    refine ⟨_, (pss_cons (ps_set (i := 3) sc__law_units.nd rfl (.inr rfl) (pe_callB call_len_seq (by rfl) T.b_len PySem.boot_len (pa_cons (pv 1) pa_nil)))
        (pss_one (ps_ret (pe_callTy call_tuple_of (by rfl) T.b_tuple PyProof.Rows.boot_tuple (pa_cons (pe_lc (own := [("_law_k", 4)]) rfl sc__law_units.nd (pi_range1 (by rfl) T.b_range (pa_cons (pv 3) pa_nil)) (blkOk_by (N := N__law_units) (sc := defScope s__law_units) (by decide +kernel)) (fun _ _ _ _ _ => (pg_name (i := 4) sc__law_units.nd rfl (.inr rfl))) (fun _ _ _ _ _ => pts_nil) (fun _ _ _ _ _ => (pe_call G__law_stand hr (by rfl) T.d__law_stand.g T.d__law_stand.F.kp T.d__law_stand.b .nil pass0 (pa_cons (pv 0) (pa_cons (pv 1) (pa_cons (pv 2) (pa_cons (pe_callTy (show CallR _ _ (rTupOf K) from call_tuple_of) (by rfl) T.b_tuple PyProof.Rows.boot_tuple (pa_cons (pe_lc (own := [("_law_j", 5)]) rfl sc__law_units.nd (pi_range1 (by rfl) T.b_range (pa_cons (pv 3) pa_nil)) (blkOk_by (N := N__law_units) (by kernel_rfl)) (fun _ _ _ _ _ => (pg_name (i := 5) sc__law_units.nd rfl (.inl rfl))) (fun _ _ _ _ _ => pts_nil) (fun _ _ _ _ _ => (pe_callTy call_int1 (by rfl) T.b_int PyProof.Rows.boot_int (pa_cons (pe_cmpR op_eq (pv 5) (pv 4) (nomark _)) pa_nil)))) pa_nil)) pa_nil))))))) pa_nil))))), ?_⟩
    refine ⟨.ref t1, rfl, t1, _, rfl, .inr (SqT.of hh.at_), ?_⟩
    rw [List.length_map]
    refine ⟨.int (hs.length : Nat), rfl, _, rfl, by omega, by omega, fun D hD => lc_range (fun i H' => Same H H' ∧ ∃ xs, H' D = some (.lst xs) ∧ Rws p hs.length H' xs ((Lin.unitsP p hs gs).take i)) ⟨same_upd hD, [], upd_same, by simpa using Rws.nil⟩ ?_ ?_⟩
    · rintro i H1 hi ⟨s1, xs, eD, hx⟩
      rw [Int.toNat_natCast] at hi
      dsimp only [wipe, gName, List.map, List.set]
      refine ⟨rfl, .int p, rfl, .ref t1, rfl, .ref t2, rfl, .int (hs.length : Nat), rfl, _, rfl, by omega, by omega, fun E1 hE => lc_range (fun j H' => Same H1 H' ∧ H' E1 = some (.lst (((Lin.unitL hs.length i).take j).map V.int))) ⟨same_upd hE, upd_same⟩ ?_ ?_⟩
      · rintro j H2 hj ⟨s2, eE⟩
        rw [Int.toNat_natCast] at hj
        have eu : (Lin.unitL hs.length i)[j]? = some (if j = i then 1 else 0) := by
          unfold Lin.unitL
          rw [List.getElem?_map, List.getElem?_range hj]
          rfl
        refine ⟨rfl, .int (0 + (j : Nat)), rfl, .int (0 + (i : Nat)), rfl, rfl, .inr ⟨_, rfl, _, eE, ?_, same_put s2 hE, ?_⟩⟩
        · rw [List.length_map, List.length_take]
          exact small (by omega)
        · rw [upd_same, take_snoc eu, List.map_append]
          have ei : (if decide (V.int (0 + (j : Nat)) = V.int (0 + (i : Nat))) = true then (1 : Int) else 0) = if j = i then 1 else 0 := by
            by_cases z : j = i
            · rw [if_pos z, z, if_pos (by simp)]
            · rw [if_neg z, if_neg]
              intro w
              have := V.int.inj (of_decide_eq_true w)
              omega
          rw [ei]
          rfl
      · rintro H2 ⟨s2, eE⟩
        rw [Int.toNat_natCast, List.take_of_length_le (by rw [Lin.unit_len]; exact Nat.le_refl _)] at eE
        refine ⟨E1, _, rfl, .inl ⟨SqL.of eE, fun t3 ht3 => ?_⟩⟩
        have s3 : Same H (upd H2 t3 (.tup ((Lin.unitL hs.length i).map V.int))) := (s1.trans s2).trans (same_upd ht3)
        refine ⟨p, t1, t2, t3, hs, gs, Lin.unitL hs.length i, rfl, by omega, p13, hh.same s3, ht.same s3, upd_same, Lin.unit_len, Lin.unit_rg p1, fun t4 H4 s4 k4 => ?_⟩
        have s14 := (s2.trans (same_upd ht3)).trans s4
        have eD4 := s14 _ _ eD
        have xl := hx.len
        rw [List.length_take, Lin.units_len] at xl
        refine ⟨xs, eD4, small (by omega), same_put (s1.trans s14) hD, xs ++ [.ref t4], upd_same, ?_⟩
        rw [take_snoc (Lin.units_get hi)]
        exact ((hx.sm (.of_same s14)).snoc k4).put eD4
    · rintro H1 ⟨s1, xs, eD, hx⟩
      rw [Int.toNat_natCast, List.take_of_length_le (by rw [Lin.units_len]; exact Nat.le_refl _)] at hx
      refine ⟨D, _, rfl, .inl ⟨SqL.of eD, fun t ht' => ?_⟩⟩
      exact q t xs _ (s1.trans (same_upd ht')) upd_same (hx.sm (.new ht'))
-- CUT
/-! ### the program -/
def spWhole : Sp := fun vs H Q _ => ∃ (x : V) (d : PyData), vs = [x] ∧ Dq H x d ∧ Q (.bl (isInt d)) H
theorem ok_is_whole (T : Tx K mg A) : FnOk P w K mg base CX0 1 A.f_is_whole A.d_is_whole ["thing"] spWhole := by
  refine T.d_is_whole.F.ok sc_is_whole (fun vs H Q E h => ?_) (fun cdv A outer s H vs Q E hr h => ?_)
  · obtain ⟨x, t, rfl, _⟩ := h
    rfl
  · obtain ⟨x, o, rfl, th, q⟩ := h
    obtain ⟨t, ⟨ty, ht⟩, e, _⟩ := th.ty (K := K)
    rw [← e] at q
    refine ⟨_, (pss_one (ps_ret (pe_and (pe_callB call_isi (by rfl) T.b_isinstance PyProof.Rows.boot_isinstance (pa_cons (pv 0) (pa_cons (pe_bltn (v := .ty "int") (by rfl) T.b_int PyProof.Rows.boot_int rfl) pa_nil))) (pe_one (pe_not (pe_callB call_isi (by rfl) T.b_isinstance PyProof.Rows.boot_isinstance (pa_cons (pv 0) (pa_cons (pe_bltn (v := .ty "bool") (by rfl) T.b_bool PyProof.Rows.boot_bool rfl) pa_nil)))))))), ?_⟩
    refine ⟨x, rfl, x, _, _, _, _, rfl, .ty "int", ty, isi_of "int" ht (.inl rfl), _, rfl, ite2 (fun e => ?_) (fun e => ?_)⟩
    · refine ⟨x, rfl, x, _, _, _, _, rfl, .ty "bool", ty, isi_of "bool" ht (.inr (.inl rfl)), _, rfl, ?_⟩
      rw [e] at q
      exact q
    · have e2 : isB t "int" = false := Bool.eq_false_iff.mpr e
      rw [e2] at q
      exact q
def spNum : Sp := fun vs H Q _ => ∃ (p : Int) (x : V) (d : PyData), vs = [.int p, x] ∧ Dq H x d ∧ Q (.bl (isNumD p d)) H
theorem ok_is_round (T : Tx K mg A) : FnOk P w K mg base CX0 2 A.f_is_round A.d_is_round ["p", "thing"] spNum := by
  have G_is_whole : FnOk P w K mg base CX0 1 A.f_is_whole A.d_is_whole ["thing"] spWhole := ok_is_whole T
  refine T.d_is_round.F.ok sc_is_round (fun vs H Q E h => ?_) (fun cdv A outer s H vs Q E hr h => ?_)
  · obtain ⟨p, x, t, rfl, _⟩ := h
    rfl
  · obtain ⟨p, x, d, rfl, th, q⟩ := h
    refine ⟨_, (pss_one (ps_ret (pe_and (pe_call G_is_whole hr (by rfl) T.d_is_whole.g T.d_is_whole.F.kp T.d_is_whole.b .nil pass0 (pa_cons (pv 1) pa_nil)) (pe_one (pe_chain op_le op_lt pe_int (pv 1) (pv 0)))))), ?_⟩
    refine ⟨x, rfl, x, d, rfl, th, _, rfl, ite2 (fun e => ?_) (fun e => ?_)⟩
    · obtain ⟨i, rfl, rfl⟩ := isInt_of th e
      refine ⟨.int i, rfl, 0, i, rfl, rfl, _, rfl, ite2 (fun e => ?_) (fun e => ?_)⟩
      · refine ⟨.int p, rfl, i, p, rfl, rfl, ?_⟩
        have q' : Q (.bl (decide (0 ≤ i) && decide (i < p))) H := q
        rw [e] at q'
        exact q'
      · have q' : Q (.bl (decide (0 ≤ i) && decide (i < p))) H := q
        rw [Bool.eq_false_iff.mpr e] at q'
        exact q'
    · rw [num_false (Bool.eq_false_iff.mpr e)] at q
      exact q
def spPair : Sp := fun vs H Q _ => ∃ (p : Int) (x : V) (d : PyData), vs = [.int p, x] ∧ Dq H x d ∧ Q (.bl (isPairD p d)) H
theorem ok_is_pair (T : Tx K mg A) : FnOk P w K mg base CX0 3 A.f_is_pair A.d_is_pair ["p", "thing"] spPair := by
  have G_is_round : FnOk P w K mg base CX0 2 A.f_is_round A.d_is_round ["p", "thing"] spNum := ok_is_round T
  refine T.d_is_pair.F.ok sc_is_pair (fun vs H Q E h => ?_) (fun cdv A outer s H vs Q E hr h => ?_)
  · obtain ⟨p, x, t, rfl, _⟩ := h
    rfl
  · obtain ⟨p, x, d, rfl, th, q⟩ := h
    obtain ⟨t, ⟨ty, ht⟩, _, et⟩ := th.ty (K := K)
    refine ⟨_, (pss_one (ps_ret (pe_and (pe_callB call_isi (by rfl) T.b_isinstance PyProof.Rows.boot_isinstance (pa_cons (pv 1) (pa_cons (pe_bltn (v := .ty "tuple") (by rfl) T.b_tuple PyProof.Rows.boot_tuple rfl) pa_nil))) (pe_and (pe_cmpR op_eq (pe_callB call_len_seq (by rfl) T.b_len PySem.boot_len (pa_cons (pv 1) pa_nil)) pe_int (nomark _)) (pe_and (pe_call G_is_round hr (by rfl) T.d_is_round.g T.d_is_round.F.kp T.d_is_round.b .nil pass0 (pa_cons (pv 0) (pa_cons (pe_ix ix_tup (pv 1) pe_int (fun _ _ => rfl)) pa_nil))) (pe_one (pe_call G_is_round hr (by rfl) T.d_is_round.g T.d_is_round.F.kp T.d_is_round.b .nil pass0 (pa_cons (pv 0) (pa_cons (pe_ix ix_tup (pv 1) pe_int (fun _ _ => rfl)) pa_nil))))))))), ?_⟩
    refine ⟨x, rfl, x, _, _, _, _, rfl, .ty "tuple", ty, isi_of "tuple" ht (by simp), _, rfl, ite2 (fun e => ?_) (fun e => ?_)⟩
    · rw [et] at e
      obtain ⟨a, xs, ds, rfl, ha, hds, rfl⟩ := isTup_of th e
      refine ⟨.ref a, rfl, a, xs, rfl, .inr (SqT.of ha), rfl, _, rfl, ite2 (fun e => ?_) (fun e => ?_)⟩
      · have e2 : (ds.length : Int) = 2 := by
          rw [← hds.length]
          exact V.int.inj (of_decide_eq_true e)
        obtain ⟨x, y, rfl⟩ := two_of e2
        cases hds with
        | cons h1 k1 =>
          cases k1 with
          | cons h2 k2 =>
            cases k2
            refine ⟨.int p, rfl, .ref a, rfl, a, _, 0, _, rfl, rfl, SqT.of ha, atI_zero, p, _, _, rfl, h1, _, rfl, ite2 (fun e => ?_) (fun e => ?_)⟩
            · refine ⟨.int p, rfl, .ref a, rfl, a, _, 1, _, rfl, rfl, SqT.of ha, atI_nat (j := 1) rfl, p, _, _, rfl, h2, ?_⟩
              have q' : Q (.bl (isNumD p x && isNumD p y)) H := q
              rw [e] at q'
              exact q'
            · have q' : Q (.bl (isNumD p x && isNumD p y)) H := q
              rw [Bool.eq_false_iff.mpr e] at q'
              exact q'
      · have e2 : ¬ ((ds.length : Int) = 2) := fun z => e (decide_eq_true (by rw [hds.length, z]))
        rw [pair_len e2] at q
        exact q
    · rw [et] at e
      rw [pair_false (Bool.eq_false_iff.mpr e)] at q
      exact q
def spRow : Sp := fun vs H Q _ => ∃ (p n : Int) (x : V) (d : PyData), vs = [.int p, .int n, x] ∧ Dq H x d ∧ (∀ ds, d = .tuple ds → ds.length ≤ 100000) ∧ ∀ H', Same H H' → Q (.bl (isRowD p n d)) H'
theorem ok_is_row (T : Tx K mg A) : FnOk P w K mg base CX0 4 A.f_is_row A.d_is_row ["p", "posts", "thing"] spRow := by
  have G_is_pair : FnOk P w K mg base CX0 3 A.f_is_pair A.d_is_pair ["p", "thing"] spPair := ok_is_pair T
  refine T.d_is_row.F.ok sc_is_row (fun vs H Q E h => ?_) (fun cdv A outer s H vs Q E hr h => ?_)
  · obtain ⟨p, n, x, t, rfl, _⟩ := h
    rfl
  · obtain ⟨p, n, x, d, rfl, th, hl, q⟩ := h
    obtain ⟨t, ⟨ty, ht⟩, _, et⟩ := th.ty (K := K)
    refine ⟨_, (pss_one (ps_ret (pe_and (pe_callB call_isi (by rfl) T.b_isinstance PyProof.Rows.boot_isinstance (pa_cons (pv 2) (pa_cons (pe_bltn (v := .ty "tuple") (by rfl) T.b_tuple PyProof.Rows.boot_tuple rfl) pa_nil))) (pe_and (pe_cmpR op_eq (pe_callB call_len_seq (by rfl) T.b_len PySem.boot_len (pa_cons (pv 2) pa_nil)) (pv 1) (nomark _)) (pe_one (pe_callB (cr_all rfl) (by rfl) T.b_all PyProof.Rows.boot_all (pa_cons (pe_lc (own := [("pair", 3)]) rfl sc_is_row.nd (pi_tup (pv 2)) (blkOk_by (N := N_is_row) (sc := defScope s_is_row) (by decide +kernel)) (fun _ _ _ _ _ => (pg_name (i := 3) sc_is_row.nd rfl (.inl rfl))) (fun _ _ _ _ _ => pts_nil) (fun _ _ _ _ _ => (pe_call G_is_pair hr (by rfl) T.d_is_pair.g T.d_is_pair.F.kp T.d_is_pair.b .nil pass0 (pa_cons (pv 0) (pa_cons (pv 3) pa_nil))))) pa_nil))))))), ?_⟩
    refine ⟨x, rfl, x, _, _, _, _, rfl, .ty "tuple", ty, isi_of "tuple" ht (by simp), _, rfl, ite2 (fun e => ?_) (fun e => ?_)⟩
    · rw [et] at e
      obtain ⟨a, xs, ds, rfl, ha, hds, rfl⟩ := isTup_of th e
      have hl' := hl ds rfl
      have hxl := hds.length
      refine ⟨.ref a, rfl, a, xs, rfl, .inr (SqT.of ha), .int n, rfl, rfl, _, rfl, ite2 (fun e => ?_) (fun e => ?_)⟩
      · have e2 : (ds.length : Int) = n := by
          rw [← hds.length]
          exact V.int.inj (of_decide_eq_true e)
        refine ⟨.ref a, rfl, a, rfl, ⟨_, SqT.of ha⟩, fun D hD => lc_tup (xs := xs) (fun i H' => Same H H' ∧ H' D = some (.lst (((ds.take i).map (isPairD p)).map V.bl))) ⟨same_upd hD, upd_same⟩ (fun i H' _ h => .inl (.inl (h.1 _ _ ha))) ?_ ?_⟩
        · rintro i y H' hi ⟨s1, hDs⟩
          obtain ⟨dy, ey, hy⟩ := hds.get hi
          refine ⟨rfl, .int p, rfl, y, rfl, p, y, dy, rfl, hy.same s1, _, hDs, ?_, fun b o e => ?_, ?_⟩
          · rw [List.length_map, List.length_map, List.length_take]
            have e : sizeLine = 16777216 := by decide
            omega
          · rw [upd_ne (ne_of_none e hD)]
            exact s1 _ _ e
          · rw [upd_same, List.take_add_one, ey, List.map_append, List.map_append]
            rfl
        · rintro H' ⟨s1, hDs⟩
          refine ⟨D, _, rfl, SqL.of hDs, ?_⟩
          have e3 : ((ds.take xs.length).map (isPairD p)).all id = ds.all (isPairD p) := by
            rw [hxl, List.take_length, List.all_map]
            rfl
          have e4 : isRowD p n (.tuple ds) = ds.all (isPairD p) := by
            show (decide ((ds.length : Int) = n) && ds.all (isPairD p)) = _
            rw [decide_eq_true e2]
            rfl
          have q' := q H' s1
          rw [e4, ← e3] at q'
          exact q'
      · have e2 : ¬ ((ds.length : Int) = n) := fun z => e (decide_eq_true (by rw [hds.length, z]))
        have e4 : isRowD p n (.tuple ds) = false := by
          show (decide ((ds.length : Int) = n) && ds.all (isPairD p)) = _
          rw [decide_eq_false e2]
          rfl
        have q' := q H (Same.refl _)
        rw [e4] at q'
        exact q'
    · rw [et] at e
      have q' := q H (Same.refl _)
      rw [row_false (Bool.eq_false_iff.mpr e)] at q'
      exact q'
/-! ### things -/
theorem primes_at (T : Tx K mg A) (H : Hp) : SqT K H A.c_PRIMES (prs.map V.int) := by
  obtain ⟨od, its, n, sl, h, v⟩ := T.w_PRIMES
  have e : its.size ≤ sizeLine := by
    have z := v.length
    rw [← Array.length_toList, ← z]
    decide
  exact .inr ⟨_, its, n, h, rfl, rfl, e, v⟩
theorem in_ints {i : Int} {ns : List Int} : inV (.int i) (ns.map V.int) = decide (i ∈ ns) := by
  unfold inV
  rw [List.any_map, Bool.eq_iff_iff, List.any_eq_true, decide_eq_true_iff]
  constructor
  · rintro ⟨y, hy, e⟩
    have e2 : y = i := by simpa [eqV] using e
    rw [← e2]
    exact hy
  · intro h
    exact ⟨i, h, by simp [eqV]⟩
theorem flat_allI {ns : List Int} : (ns.map V.int).all flatV = true := by
  rw [List.all_map, List.all_eq_true]
  intro x _
  rfl
def isPrimeD : PyData → Bool
  | .int i => decide (i ∈ prs)
  | _ => false
def spPrimeD : Sp := fun vs H Q _ => ∃ (x : V) (d : PyData), vs = [x] ∧ Dq H x d ∧ Q (.bl (isPrimeD d)) H
theorem ok_is_prime (T : Tx K mg A) : FnOk P w K mg base CX0 2 A.f_is_prime A.d_is_prime ["thing"] spPrimeD := by
  have G_is_whole : FnOk P w K mg base CX0 1 A.f_is_whole A.d_is_whole ["thing"] spWhole := ok_is_whole T
  refine T.d_is_prime.F.ok sc_is_prime (fun vs H Q E h => ?_) (fun cdv A outer s H vs Q E hr h => ?_)
  · obtain ⟨x, d, rfl, _⟩ := h
    rfl
  · obtain ⟨x, d, rfl, th, q⟩ := h
    refine ⟨_, (pss_one (ps_ret (pe_and (pe_call G_is_whole hr (by rfl) T.d_is_whole.g T.d_is_whole.F.kp T.d_is_whole.b .nil pass0 (pa_cons (pv 0) pa_nil)) (pe_one (pe_cmpR op_in_seq (pv 0) (pe_glob (v := .ref _) (by rfl) T.v_PRIMES rfl) (by rfl)))))), ?_⟩
    refine ⟨x, rfl, x, d, rfl, th, _, rfl, ite2 (fun e => ?_) (fun e => ?_)⟩
    · obtain ⟨i, rfl, rfl⟩ := isInt_of th e
      refine ⟨.int i, rfl, _, _, rfl, .inr (primes_at T _), rfl, flat_allI, ?_⟩
      have z : inV (.int i) (prs.map V.int) = decide (i ∈ prs) := in_ints
      show Q (.bl (inV (.int i) (prs.map V.int))) H
      rw [z]
      exact q
    · have z : isPrimeD d = false := by
        cases d <;> first | rfl | exact absurd rfl e
      rw [z] at q
      exact q
/-- rows of m posts in a tuple (none only where m is 0) -/
structure Rts (p : Int) (m : Nat) (H : Hp) (a : Addr) (xs : List V) (rs : List Row) : Prop where
  at_ : H a = some (.tup xs)
  rws : Rws p m H xs rs
  nil : xs = [] → m = 0
theorem Rts.sm {p : Int} {m : Nat} {H H' : Hp} {a : Addr} {xs : List V} {rs : List Row} (h : Rts p m H a xs rs) (s : Sm H H') : Rts p m H' a xs rs := ⟨s.tup h.at_, h.rws.sm s, h.nil⟩
def spPostsOf : Sp := fun vs H Q _ => ∃ (p : Int) (m : Nat) (a : Addr) (xs : List V) (rs : List Row), vs = [.ref a] ∧ Rts p m H a xs rs ∧ Q (.int (m : Nat)) H
theorem ok_posts_of (T : Tx K mg A) : FnOk P w K mg base CX0 1 A.f_posts_of A.d_posts_of ["rows"] spPostsOf := by
  refine T.d_posts_of.F.ok sc_posts_of (fun vs H Q E h => ?_) (fun cdv A outer s H vs Q E hr h => ?_)
  · obtain ⟨p, m, a, xs, rs, rfl, _⟩ := h
    rfl
  · obtain ⟨p, m, a, xs, rs, rfl, ht, q⟩ := h
    refine ⟨_, (pss_one (ps_ret (pe_ifExp (pt_truth (pv 0) (fun _ => rfl)) (pe_callB call_len_seq (by rfl) T.b_len PySem.boot_len (pa_cons (pe_ix ix_tup (pv 0) pe_int (fun _ _ => rfl)) pa_nil)) pe_int))), ?_⟩
    cases xs with
    | nil =>
      rw [ht.nil rfl] at q
      exact ⟨.ref a, rfl, false, .inr (.inl ⟨_, SqT.of ht.at_, rfl⟩), q⟩
    | cons x r =>
      obtain ⟨b, u, rfl, eu, ku⟩ := ht.rws.rk (i := 0) (x := x) rfl
      obtain ⟨⟨zs, ez, pz⟩, _, ul⟩ := ku
      have zl := pz.len
      refine ⟨.ref a, rfl, true, .inr (.inl ⟨_, SqT.of ht.at_, rfl⟩), .ref a, rfl, a, _, 0, .ref b, rfl, rfl, SqT.of ht.at_, atI_zero, b, zs, rfl, .inr (SqT.of ez), ?_⟩
      have e : zs.length = m := by omega
      rw [e]
      exact q
theorem isRow_true {p : Int} {m : Nat} {u : Row} (inp : In p u) (ln : u.length = m) : isRowD p m (rowD u) = true := by
  show (decide (((u.map pairD).length : Int) = m) && (u.map pairD).all (isPairD p)) = true
  rw [List.length_map, ln, decide_eq_true rfl, Bool.true_and, List.all_eq_true]
  intro d hd
  obtain ⟨v, hv, rfl⟩ := List.mem_map.mp hd
  have h := inp v hv
  show ((decide (0 ≤ v.1) && decide (v.1 < p)) && (decide (0 ≤ v.2) && decide (v.2 < p))) = true
  rw [decide_eq_true h.1.1, decide_eq_true h.1.2, decide_eq_true h.2.1, decide_eq_true h.2.2]
  rfl
theorem few_rowD {u : Row} (h : u.length ≤ 1000) : ∀ ds, rowD u = .tuple ds → ds.length ≤ 100000 := fun ds e => by
  have e' : PyData.tuple (u.map pairD) = .tuple ds := e
  cases e'
  rw [List.length_map]
  omega
theorem all_trueB : ∀ {n : Nat}, (List.replicate n true).all id = true
  | 0 => rfl
  | n + 1 => by
    rw [List.replicate_succ, List.all_cons, all_trueB]
    rfl
def spAreRows : Sp := fun vs H Q _ => ∃ (p : Int) (m : Nat) (a : Addr) (xs : List V) (rs : List Row), vs = [.int p, .ref a] ∧ Rts p m H a xs rs ∧ xs.length ≤ 20 ∧ m ≤ 10 ∧ ∀ H', Same H H' → Q (.bl true) H'
theorem ok_are_rows (T : Tx K mg A) : FnOk P w K mg base CX0 5 A.f_are_rows A.d_are_rows ["p", "thing"] spAreRows := by
  have G_posts_of : FnOk P w K mg base CX0 1 A.f_posts_of A.d_posts_of ["rows"] spPostsOf := ok_posts_of T
  have G_is_row : FnOk P w K mg base CX0 4 A.f_is_row A.d_is_row ["p", "posts", "thing"] spRow := ok_is_row T
  obtain ⟨tkP, h_POSTS⟩ := T.v_POSTS
  refine T.d_are_rows.F.ok sc_are_rows (fun vs H Q E h => ?_) (fun cdv A outer s H vs Q E hr h => ?_)
  · obtain ⟨p, m, a, xs, rs, rfl, _⟩ := h
    rfl
  · obtain ⟨p, m, a, xs, rs, rfl, ht, hl, hm, q⟩ := h
    refine ⟨_, (pss_cons (ps_if (PW.pt (pw_or (pt_not (pt_val (pe_callB call_isi (by rfl) T.b_isinstance PyProof.Rows.boot_isinstance (pa_cons (pv 1) (pa_cons (pe_bltn (v := .ty "tuple") (by rfl) T.b_tuple PyProof.Rows.boot_tuple rfl) pa_nil))))) (pw_or1 (pt_cmpR op_gt (pe_callB call_len_seq (by rfl) T.b_len PySem.boot_len (pa_cons (pv 1) pa_nil)) (pe_op op_mul pe_int (pe_glob (v := .int 10) (by rfl) h_POSTS ⟨_, rfl⟩)) (nomark _)))))
        (pss_one (ps_ret pe_bl))
        pss_nil)
        (pss_cons (ps_if (pt_not (pt_val (pe_callB (cr_all rfl) (by rfl) T.b_all PyProof.Rows.boot_all (pa_cons (pe_lc (own := [("row", 3)]) rfl sc_are_rows.nd (pi_tup (pv 1)) (blkOk_by (N := N_are_rows) (sc := defScope s_are_rows) (by decide +kernel)) (fun _ _ _ _ _ => (pg_name (i := 3) sc_are_rows.nd rfl (.inl rfl))) (fun _ _ _ _ _ => pts_nil) (fun _ _ _ _ _ => (pe_callB (show CallR _ _ (rIsi K) from call_isi) (by rfl) T.b_isinstance PyProof.Rows.boot_isinstance (pa_cons (pv 3) (pa_cons (pe_bltn (v := .ty "tuple") (by rfl) T.b_tuple PyProof.Rows.boot_tuple rfl) pa_nil))))) pa_nil))))
        (pss_one (ps_ret pe_bl))
        pss_nil)
        (pss_cons (ps_set (i := 2) sc_are_rows.nd rfl (.inr rfl) (pe_call G_posts_of (hr.mono (by decide)) (by rfl) T.d_posts_of.g T.d_posts_of.F.kp T.d_posts_of.b .nil pass0 (pa_cons (pv 1) pa_nil)))
        (pss_one (ps_ret (pe_and (pe_cmpR op_le (pv 2) (pe_glob (v := .int 10) (by rfl) h_POSTS ⟨_, rfl⟩) (nomark _)) (pe_one (pe_callB (cr_all rfl) (by rfl) T.b_all PyProof.Rows.boot_all (pa_cons (pe_lc (own := [("row", 3)]) rfl sc_are_rows.nd (pi_tup (pv 1)) (blkOk_by (N := N_are_rows) (sc := defScope s_are_rows) (by decide +kernel)) (fun _ _ _ _ _ => (pg_name (i := 3) sc_are_rows.nd rfl (.inl rfl))) (fun _ _ _ _ _ => pts_nil) (fun _ _ _ _ _ => (pe_call G_is_row hr (by rfl) T.d_is_row.g T.d_is_row.F.kp T.d_is_row.b .nil pass0 (pa_cons (pv 0) (pa_cons (pv 2) (pa_cons (pv 3) pa_nil)))))) pa_nil))))))))), ?_⟩
    refine ⟨.ref a, rfl, .ref a, _, _, _, true, rfl, .ty "tuple", .base (.tup ht.at_), kit_ty (by decide +kernel), _, rfl, ?_⟩
    refine ⟨.ref a, rfl, a, xs, rfl, .inr (SqT.of ht.at_), 2, 10, rfl, rfl, .inl ⟨by decide, by decide⟩, _, _, rfl, rfl, false, bl_f (by omega), ?_⟩
    refine ⟨.ref a, rfl, a, rfl, ⟨_, SqT.of ht.at_⟩, fun D hD => lc_tup (xs := xs) (fun i H' => Same H H' ∧ H' D = some (.lst ((List.replicate i true).map V.bl))) ⟨same_upd hD, upd_same⟩ (fun i H' _ h => .inl (.inl (h.1 _ _ ht.at_))) ?_ ?_⟩
    · rintro i y H1 hi ⟨s1, eD⟩
      obtain ⟨b, u, rfl, eu, ku⟩ := ht.rws.rk hi
      obtain ⟨⟨zs, ez, pz⟩, _, ul⟩ := ku
      have hix := (List.getElem?_eq_some_iff.mp hi).1
      refine ⟨rfl, .ref b, rfl, .ref b, _, _, _, true, rfl, .ty "tuple", .base (.tup (s1 _ _ ez)), kit_ty (by decide +kernel), _, eD, ?_, same_put s1 hD, ?_⟩
      · rw [List.length_map, List.length_replicate]
        exact small (by omega)
      · rw [upd_same, List.replicate_succ', List.map_append]
        rfl
    · rintro H1 ⟨s1, eD⟩
      refine ⟨D, _, rfl, SqL.of eD, _, rfl, ?_⟩
      rw [all_trueB]
      have ht1 := ht.sm (.of_same s1)
      refine ⟨.ref a, rfl, p, m, a, xs, rs, rfl, ht1, ?_⟩
      refine ⟨.int (m : Nat), rfl, _, _, rfl, rfl, true, bl_t (by omega), ?_⟩
      refine ⟨.ref a, rfl, a, rfl, ⟨_, SqT.of ht1.at_⟩, fun D2 hD2 => lc_tup (xs := xs) (fun i H' => Same H1 H' ∧ H' D2 = some (.lst ((List.replicate i true).map V.bl))) ⟨same_upd hD2, upd_same⟩ (fun i H' _ h => .inl (.inl (h.1 _ _ ht1.at_))) ?_ ?_⟩
      · rintro i y H2 hi ⟨s2, eD2⟩
        obtain ⟨b, u, rfl, eu, ku⟩ := (ht1.rws.sm (.of_same s2)).rk hi
        have hix := (List.getElem?_eq_some_iff.mp hi).1
        refine ⟨rfl, .int p, rfl, .int (m : Nat), rfl, .ref b, rfl, p, (m : Nat), .ref b, rowD u, rfl, dq_row ku.rw, few_rowD (by rw [ku.len]; omega), fun H3 s3 => ?_⟩
        rw [isRow_true ku.inp ku.len]
        refine ⟨_, s3 _ _ eD2, ?_, same_put (s2.trans s3) hD2, ?_⟩
        · rw [List.length_map, List.length_replicate]
          exact small (by omega)
        · rw [upd_same, List.replicate_succ', List.map_append]
          rfl
      · rintro H2 ⟨s2, eD2⟩
        refine ⟨D2, _, rfl, SqL.of eD2, ?_⟩
        rw [all_trueB]
        exact q H2 (s1.trans s2)
def spUnfair : Sp := fun vs H Q _ => ∃ (p : Int) (m : Nat) (a : Addr) (xs : List V) (rs : List Row), vs = [.int p, .ref a] ∧ 0 < p ∧ p ≤ 13 ∧ Rts p m H a xs rs ∧ xs.length ≤ 20 ∧ m ≤ 10 ∧ (∀ r ∈ rs, ∀ s ∈ rs, metR p r s = 0) ∧ ∀ H', Sm H H' → Q .non H'
theorem ok_first_unfair (T : Tx K mg A) : FnOk P w K mg base CX0 2 A.f_first_unfair A.d_first_unfair ["p", "rows"] spUnfair := by
  have G_meet : FnOk P w K mg base CX0 1 A.f_meet A.d_meet ["p", "one", "other"] spMeet := ok_meet T
  refine T.d_first_unfair.F.ok sc_first_unfair (fun vs H Q E h => ?_) (fun cdv A outer s H vs Q E hr h => ?_)
  · obtain ⟨p, m, a, xs, rs, rfl, _⟩ := h
    rfl
  · obtain ⟨p, m, a, xs, rs, rfl, p0, p13, ht, hl, hm, fair, q⟩ := h
    refine ⟨_, (pss_cons (ps_for PassesOwn.never rfl (En.pi_enumK (by rfl) T.b_enumerate (pa_cons (pv 1) pa_nil)) (pg_tup rfl (pgs_cons (pg_name (i := 2) sc_first_unfair.nd rfl (.inl rfl)) (pgs_cons (pg_name (i := 3) sc_first_unfair.nd rfl (.inl rfl)) pgs_nil)))
        (pss_one (ps_for PassesOwn.never rfl (pi_range2 (by rfl) T.b_range (pa_cons (pe_op op_add (pv 2) pe_int) (pa_cons (pe_callB call_len_seq (by rfl) T.b_len PySem.boot_len (pa_cons (pv 1) pa_nil)) pa_nil))) (pg_name (i := 4) sc_first_unfair.nd rfl (.inl rfl))
        (pss_one (ps_if (pt_cmpR op_ne (pe_call G_meet hr (by rfl) T.d_meet.g T.d_meet.F.kp T.d_meet.b .nil pass0 (pa_cons (pv 0) (pa_cons (pv 3) (pa_cons (pe_ix ix_tup (pv 1) (pv 4) (fun _ _ => rfl)) pa_nil)))) pe_int (nomark _))
        (pss_one (ps_ret (pe_tup (pa_cons (pv 2) (pa_cons (pv 4) pa_nil)))))
        pss_nil)))))
        (pss_one (ps_ret pe_non))), ?_⟩
    refine ⟨.ref a, rfl, .t, a, _, rfl, SqT.of ht.at_, for_it En.walkE (fun i σ H' => ∃ v2 v3 v4, σ = [some (.int p), some (.ref a), v2, v3, v4] ∧ Sm H H') ⟨_, _, _, rfl, .refl _⟩ (fun i σ H' _ h => by obtain ⟨_, _, _, _, s⟩ := h; exact SqT.of (s.tup ht.at_)) ?_ ?_⟩
    · rintro i z σ H1 H2 hi ⟨v2, v3, v4, rfl, s1⟩ ⟨T1, y, x, rfl, hT, rfl, hy, hx⟩
      cases hy
      dsimp only at hx
      obtain ⟨b, u, rfl, eu, ku⟩ := ht.rws.rk hx
      have s2 := s1.trans (.new (o := .tup [.int (i : Nat), .ref b]) hT)
      refine ⟨T1, [.int (i : Nat), .ref b], rfl, SqT.of upd_same, rfl, .int (i : Nat), [.ref b], rfl, .ref b, [], rfl, rfl, ?_⟩
      generalize upd H1 T1 (.tup [.int (i : Nat), .ref b]) = H3 at s2 ⊢
      refine ⟨.int (i : Nat), rfl, _, 1, rfl, rfl, .ref a, rfl, a, xs, rfl, .inr (SqT.of (s2.tup ht.at_)), _, _, rfl, ⟨by omega, by omega, by omega, by omega⟩, for_range (fun j σ H' => ∃ v4, σ = [some (.int p), some (.ref a), some (.int (i : Nat)), some (.ref b), v4] ∧ Sm H H') ⟨_, rfl, s2⟩ ?_ ?_⟩
      · rintro j σ H4 hj ⟨v4, rfl, s4⟩
        have hj' : i + 1 + j < xs.length := by omega
        have ej : (((i : Nat) : Int) + 1 + (j : Nat)) = ((i + 1 + j : Nat) : Int) := by omega
        rw [ej]
        have ex : xs[i + 1 + j]? = some (xs[i + 1 + j]'hj') := List.getElem?_eq_getElem hj'
        obtain ⟨b2, u2, e2, eu2, ku2⟩ := ht.rws.rk ex
        rw [e2] at ex
        have k4 := ku.sm s4
        have k42 := ku2.sm s4
        refine ⟨.int p, rfl, .ref b, rfl, .ref a, rfl, .int ((i + 1 + j : Nat) : Int), rfl, a, _, _, .ref b2, rfl, rfl, SqT.of (s4.tup ht.at_), atI_nat ex, p, b, b2, u, u2, rfl, p0, k4.rw, k42.rw, k4.fit p13 (by omega), k42.fit p13 (by omega), by rw [k4.len, k42.len], fun H5 s5 => ?_⟩
        rw [fair u (List.mem_of_getElem? eu) u2 (List.mem_of_getElem? eu2)]
        exact ⟨rfl, false, nb_f rfl, _, rfl, s4.trans s5⟩
      · rintro σ H4 ⟨v4, rfl, s4⟩
        exact ⟨_, _, _, rfl, s4⟩
    · rintro σ H1 ⟨v2, v3, v4, rfl, s1⟩
      exact q H1 s1
/-! ### all but the deck and tables stays -/
structure Fs (d g : Addr) (H H' : Hp) : Prop where
  kp : ∀ a o, (∀ ps, o ≠ HO.tbl ps) → a ≠ d → a ≠ g → H a = some o → H' a = some o
  tb : ∀ P, P ≠ d → P ≠ g → GxR.TabG H P → GxR.TabG H' P
section
variable {d g c : Addr} {k : Int} {H H1 H2 : Hp}
theorem Fs.refl (d g : Addr) (H : Hp) : Fs d g H H := ⟨fun _ _ _ _ _ e => e, fun _ _ _ e => e⟩
theorem Fs.trans (a : Fs d g H H1) (b : Fs d g H1 H2) : Fs d g H H2 := ⟨fun x o n h1 h2 e => b.kp x o n h1 h2 (a.kp x o n h1 h2 e), fun P h1 h2 e => b.tb P h1 h2 (a.tb P h1 h2 e)⟩
theorem Fs.of_fr (f : Fr d g H H1) : Fs d g H H1 := ⟨fun x o _ h1 h2 e => f x o h1 h2 e, fun P h1 h2 ⟨ps, e, t⟩ => ⟨ps, f P _ h1 h2 e, t⟩⟩
theorem Fs.of_sm (s : Sm H H1) : Fs d g H H1 := ⟨fun x o n _ _ e => s.kp x o n e, fun P _ _ e => s.tb P e⟩
theorem Fs.of_same (s : Same H H1) : Fs d g H H1 := .of_sm (.of_same s)
theorem Fs.fr (a : Fs d g H H1) (f : Fr d g H1 H2) : Fs d g H H2 := a.trans (.of_fr f)
theorem Fs.sm (a : Fs d g H H1) (s : Sm H1 H2) : Fs d g H H2 := a.trans (.of_sm s)
theorem Fs.tup {t : Addr} {xs : List V} (f : Fs d g H H1) (D : Dk d g c k H) (h : H t = some (.tup xs)) : H1 t = some (.tup xs) := f.kp _ _ (fun _ z => by cases z) (D.nt h).1 (D.nt h).2 h
theorem Fs.lst {t : Addr} {xs : List V} (f : Fs d g H H1) (h1 : t ≠ d) (h2 : t ≠ g) (h : H t = some (.lst xs)) : H1 t = some (.lst xs) := f.kp _ _ (fun _ z => by cases z) h1 h2 h
theorem Fs.tab {t : Addr} (f : Fs d g H H1) (D : Dk d g c k H) (h : GxR.TabG H t) : GxR.TabG H1 t := f.tb _ (D.ntb h).1 (D.ntb h).2 h
theorem Prs.fs {xs : List V} {r : Row} (h : Prs H xs r) (D : Dk d g c k H) (f : Fs d g H H1) : Prs H1 xs r := ⟨h.len, fun e => let ⟨u, e2, a, ea, p⟩ := h.get e; ⟨u, e2, a, ea, f.tup D p⟩⟩
theorem Rw.fs {t : Addr} {r : Row} (h : Rw H t r) (D : Dk d g c k H) (f : Fs d g H H1) : Rw H1 t r := let ⟨xs, e, p⟩ := h; ⟨xs, f.tup D e, p.fs D f⟩
theorem Rk.fs {p : Int} {n : Nat} {t : Addr} {r : Row} (h : Rk p n H t r) (D : Dk d g c k H) (f : Fs d g H H1) : Rk p n H1 t r := ⟨h.rw.fs D f, h.inp, h.len⟩
theorem Rws.fs {p : Int} {n : Nat} {xs : List V} {rs : List Row} (h : Rws p n H xs rs) (D : Dk d g c k H) (f : Fs d g H H1) : Rws p n H1 xs rs := ⟨h.len, fun e => let ⟨a, r, h1, h2, h3⟩ := h.get e; ⟨a, r, h1, h2, h3.fs D f⟩, h.fit⟩
end
-- CUT
/-! ### the class Thing -/
theorem pl_ : ¬ (("prime" : Str) = "lot") := by decide +kernel
def thF (p : Int) (t : Addr) : List (Str × V) := putF "lot" (.ref t) (putF "prime" (.int p) [])
theorem th_lot {p : Int} {t : Addr} : (thF p t).lookup ("lot" : Str) = some (.ref t) := by
  unfold thF
  rw [lookup_putF, if_pos rfl]
theorem th_prime {p : Int} {t : Addr} : (thF p t).lookup ("prime" : Str) = some (.int p) := by
  unfold thF
  rw [lookup_putF, if_neg pl_, lookup_putF, if_pos rfl]
theorem th_no {p : Int} {t : Addr} {m : Str} (h1 : ¬ m = "lot") (h2 : ¬ m = "prime") : (thF p t).lookup m = none := by
  unfold thF
  rw [lookup_putF, if_neg h1, lookup_putF, if_neg h2]
  rfl
/-- a thing at x: round p, of m posts, its rows ss -/
def ThAt (c : Addr) (H : Hp) (x : Addr) (p : Int) (m : Nat) (ss : List Row) : Prop := ∃ dx t ys, H x = some (.ins c dx (thF p t)) ∧ H t = some (.tup ys) ∧ Rws p m H ys ss
theorem ThAt.sm {c x : Addr} {H H' : Hp} {p : Int} {m : Nat} {ss : List Row} (h : ThAt c H x p m ss) (s : Sm H H') : ThAt c H' x p m ss := let ⟨dx, t, ys, h1, h2, h3⟩ := h; ⟨dx, t, ys, s.kp _ _ (fun _ z => by cases z) h1, s.tup h2, h3.sm s⟩
theorem ThAt.fs {c x d g e : Addr} {k : Int} {H H' : Hp} {p : Int} {m : Nat} {ss : List Row} (h : ThAt c H x p m ss) (D : Dk d g e k H) (f : Fs d g H H') : ThAt c H' x p m ss := by
  obtain ⟨dx, t, ys, h1, h2, h3⟩ := h
  obtain ⟨gs, cs, n, e1, e2, _⟩ := D.ex
  exact ⟨dx, t, ys, f.kp _ _ (fun _ z => by cases z) (ne_of h1 e1 (by intro z; cases z)) (ne_of h1 e2 (by intro z; cases z)) h1, f.tup D h2, h3.fs D f⟩
theorem tab_ins {H : Hp} {P x c dx : Addr} {fs : List (Str × V)} (h : GxR.TabG H P) (e : H x = some (.ins c dx fs)) : P ≠ x := by
  obtain ⟨ps, z, _⟩ := h
  exact ne_of z e (by intro w; cases w)
theorem tup_ins {H : Hp} {t x c dx : Addr} {xs : List V} {fs : List (Str × V)} (h : H t = some (.tup xs)) (e : H x = some (.ins c dx fs)) : t ≠ x := ne_of h e (by intro w; cases w)
theorem Rws.ins {p : Int} {n : Nat} {H H' : Hp} {xs : List V} {rs : List Row} {x c dx : Addr} {fs : List (Str × V)} (h : Rws p n H xs rs) (e : H x = some (.ins c dx fs)) (k : ∀ t ys, t ≠ x → H t = some (.tup ys) → H' t = some (.tup ys)) : Rws p n H' xs rs :=
  ⟨h.len, fun z => let ⟨a, r, h1, h2, ws, h3, h4⟩ := h.get z; ⟨a, r, h1, h2, ws, k _ _ (tup_ins h3 e) h3, h4.len, fun y => let ⟨u, y2, b, y3, y4⟩ := h4.get y; ⟨u, y2, b, y3, k _ _ (tup_ins y4 e) y4⟩⟩, h.fit⟩
def spInit (c P : Addr) : Sp := fun vs H Q _ => ∃ (x dx : Addr) (p : Int) (m : Nat) (a : Addr) (xs : List V) (rs : List Row), vs = [.ref x, .int p, .ref a] ∧ p ∈ prs ∧ m ≤ 10 ∧ H x = some (.ins c dx []) ∧ Rts p m H a xs rs ∧ xs.length ≤ 20 ∧ (∀ r ∈ rs, ∀ s ∈ rs, metR p r s = 0) ∧ (∀ L, PL p (2 * m) (rs.map flatR) L → L.length = m) ∧ GxR.TabG H P ∧
  ∀ ss L H', Fs x x H H' → ThAt c H' x p m ss → ss.map flatR = L.map (·.2) → PL p (2 * m) (rs.map flatR) L → Up L → Q .non H'
theorem ok_Thing___init__ (T : Tx K mg A) (B : Tb K mg base A C) : FnOk P w K mg base CX0 8 A.f_Thing___init__ A.d_Thing___init__ ["self", "p", "rows"] (spInit A.c_Thing C.p_row_of) := by
  have G_is_prime : FnOk P w K mg base CX0 2 A.f_is_prime A.d_is_prime ["thing"] spPrimeD := ok_is_prime T
  have G_are_rows : FnOk P w K mg base CX0 5 A.f_are_rows A.d_are_rows ["p", "thing"] spAreRows := ok_are_rows T
  have G_first_unfair : FnOk P w K mg base CX0 2 A.f_first_unfair A.d_first_unfair ["p", "rows"] spUnfair := ok_first_unfair T
  have G_posts_of : FnOk P w K mg base CX0 1 A.f_posts_of A.d_posts_of ["rows"] spPostsOf := ok_posts_of T
  have G_plain : FnOk P w K mg base CX0 7 A.f_plain A.d_plain ["p", "posts", "rows"] (spPlainP C.p_row_of) := ok_plain T B
  refine T.d_Thing___init__.F.ok sc_Thing___init__ (fun vs H Q E h => ?_) (fun cdv A' outer s H vs Q E hr h => ?_)
  · obtain ⟨x, dx, p, m, a, xs, rs, rfl, _⟩ := h
    rfl
  · obtain ⟨x, dx, p, m, a, xs, rs, rfl, hp, hm, hx, ht, hl, fair, cnt, tg, q⟩ := h
    obtain ⟨p2, p13⟩ := prs_bd p hp
    refine ⟨_, (pss_cons (ps_if (pt_not (pt_val (pe_call G_is_prime (hr.mono (by decide)) (by rfl) T.d_is_prime.g T.d_is_prime.F.kp T.d_is_prime.b .nil pass0 (pa_cons (pv 1) pa_nil))))
        (pss_one Cl.ps_never)
        pss_nil)
        (pss_cons (ps_if (pt_not (pt_val (pe_call G_are_rows (hr.mono (by decide)) (by rfl) T.d_are_rows.g T.d_are_rows.F.kp T.d_are_rows.b .nil pass0 (pa_cons (pv 1) (pa_cons (pv 2) pa_nil)))))
        (pss_one Cl.ps_never)
        pss_nil)
        (pss_cons (ps_set (i := 3) sc_Thing___init__.nd rfl (.inl rfl) (pe_call G_first_unfair (hr.mono (by decide)) (by rfl) T.d_first_unfair.g T.d_first_unfair.F.kp T.d_first_unfair.b .nil pass0 (pa_cons (pv 1) (pa_cons (pv 2) pa_nil))))
        (pss_cons (ps_if (pt_cmpR op_notN (pv 3) pe_non (nomark _))
        (pss_one Cl.ps_never)
        pss_nil)
        (pss_cons (ps_set (i := 4) sc_Thing___init__.nd rfl (.inl rfl) (pe_call G_posts_of (hr.mono (by decide)) (by rfl) T.d_posts_of.g T.d_posts_of.F.kp T.d_posts_of.b .nil pass0 (pa_cons (pv 2) pa_nil)))
        (pss_cons (ps_set (i := 5) sc_Thing___init__.nd rfl (.inl rfl) (pe_call G_plain hr (by rfl) T.d_plain.g T.d_plain.F.kp T.d_plain.b .nil pass0 (pa_cons (pv 1) (pa_cons (pv 4) (pa_cons (pv 2) pa_nil)))))
        (pss_cons (ps_if (pt_cmpR op_lt (pe_callB call_len_seq (by rfl) T.b_len PySem.boot_len (pa_cons (pv 5) pa_nil)) (pv 4) (nomark _))
        (pss_one Cl.ps_never)
        pss_nil)
        (pss_cons (ps_fld (pv 0) (pv 1) rfl)
        (pss_one (ps_fld (pv 0) (pe_callTy call_tuple_of (by rfl) T.b_tuple PyProof.Rows.boot_tuple (pa_cons (pv 5) pa_nil)) rfl)))))))))), ?_⟩
    refine ⟨.int p, rfl, .int p, .int p, rfl, .int p, ?_⟩
    have ip : isPrimeD (.int p) = true := decide_eq_true hp
    rw [ip]
    refine ⟨true, rfl, .int p, rfl, .ref a, rfl, p, m, a, xs, rs, rfl, ht, hl, hm, fun H1 s1 => ⟨true, rfl, ?_⟩⟩
    have sm1 : Sm H H1 := .of_same s1
    refine ⟨.int p, rfl, .ref a, rfl, p, m, a, xs, rs, rfl, by omega, p13, ht.sm sm1, hl, hm, fair, fun H2 s2 => ?_⟩
    have sm2 := sm1.trans s2
    have ht2 := ht.sm sm2
    refine ⟨.non, rfl, rfl, false, rfl, ?_⟩
    refine ⟨.ref a, rfl, p, m, a, xs, rs, rfl, ht2, ?_⟩
    refine ⟨.int p, rfl, .int (m : Nat), rfl, .ref a, rfl, p, m, a, .t, xs, rs, rfl, hp, by omega, ht2.at_, ht2.rws, by omega, sm2.tb _ tg, fun t ys ss L H3 s3 nw et hss ess pl up => ?_⟩
    have cl := cnt L pl
    have sl : ss.length = L.length := by
      have := congrArg List.length ess
      simpa using this
    have yl := hss.len
    have sm3 := sm2.trans s3
    have hx3 := sm3.kp _ _ (fun _ z => by cases z) hx
    refine ⟨.ref t, rfl, t, ys, rfl, .inl (SqL.of et), .int (m : Nat), rfl, _, _, rfl, rfl, false, bl_f (by omega), ?_⟩
    refine ⟨.int p, rfl, .ref x, rfl, x, A.c_Thing, dx, [], rfl, hx3, T.cl_Thing, T.n_Thing_prime, (by show 0 < 1000; decide), ?_⟩
    have ntx : t ≠ x := ne_of et hx3 (by intro w; cases w)
    have et4 : upd H3 x (.ins A.c_Thing dx (putF "prime" (.int p) [])) t = some (.lst ys) := by
      rw [upd_ne ntx]
      exact et
    refine ⟨.ref t, rfl, t, ys, rfl, .inl ⟨SqL.of et4, fun t2 ht2' => ?_⟩⟩
    have nx2 : x ≠ t2 := ne_of_none upd_same ht2'
    have h3n : H3 t2 = none := by
      rw [upd_ne nx2.symm] at ht2'
      exact ht2'
    refine ⟨.ref x, rfl, x, A.c_Thing, dx, _, rfl, (by rw [upd_ne nx2]; exact upd_same), T.cl_Thing, T.n_Thing_lot, (by show 1 < 1000; decide), ?_⟩
    have keep : ∀ b o, b ≠ x → H3 b = some o → upd (upd (upd H3 x (.ins A.c_Thing dx (putF "prime" (.int p) []))) t2 (.tup ys)) x (.ins A.c_Thing dx (thF p t2)) b = some o := fun b o nb e => by
      rw [upd_ne nb, upd_ne (ne_of_none e h3n), upd_ne nb]
      exact e
    refine q ss L _ ⟨fun b o n1 n2 _ e => keep b o n2 (sm3.kp _ _ n1 e), fun P n1 _ g => ?_⟩ ⟨dx, t2, ys, upd_same, ?_, ?_⟩ ess pl up
    · obtain ⟨ps, e, z⟩ := sm3.tb P g
      exact ⟨ps, keep _ _ n1 e, z⟩
    · rw [upd_ne nx2.symm]
      exact upd_same
    · exact hss.ins hx3 fun t ys n e => keep _ _ n e
def spThP (c : Addr) : Sp := fun vs H Q _ => ∃ (x : Addr) (p : Int) (m : Nat) (ss : List Row), vs = [.ref x] ∧ ThAt c H x p m ss ∧ Q (.int p) H
theorem ok_Thing_p (T : Tx K mg A) : FnOk P w K mg base CX0 1 A.f_Thing_p A.d_Thing_p ["self"] (spThP A.c_Thing) := by
  refine T.d_Thing_p.F.ok sc_Thing_p (fun vs H Q E h => ?_) (fun cdv A' outer s H vs Q E hr h => ?_)
  · obtain ⟨x, p, m, ss, rfl, _⟩ := h
    rfl
  · obtain ⟨x, p, m, ss, rfl, ⟨dx, t, ys, h1, h2, h3⟩, q⟩ := h
    refine ⟨_, (pss_one (ps_ret (pe_fld (pv 0) rfl))), ?_⟩
    exact ⟨.ref x, rfl, x, A.c_Thing, dx, _, _, rfl, h1, T.cl_Thing, T.n_Thing_prime, th_prime, q⟩
def spThN (c : Addr) : Sp := fun vs H Q _ => ∃ (x : Addr) (p : Int) (m : Nat) (ss : List Row), vs = [.ref x] ∧ ThAt c H x p m ss ∧ Q (.int (ss.length : Nat)) H
def spThR (c : Addr) : Sp := fun vs H Q _ => ∃ (x : Addr) (p : Int) (m : Nat) (ss : List Row), vs = [.ref x] ∧ ThAt c H x p m ss ∧ ∀ t ys, H t = some (.tup ys) → Rws p m H ys ss → Q (.ref t) H
theorem ok_Thing_rows (T : Tx K mg A) : FnOk P w K mg base CX0 1 A.f_Thing_rows A.d_Thing_rows ["self"] (spThR A.c_Thing) := by
  refine T.d_Thing_rows.F.ok sc_Thing_rows (fun vs H Q E h => ?_) (fun cdv A' outer s H vs Q E hr h => ?_)
  · obtain ⟨x, p, m, ss, rfl, _⟩ := h
    rfl
  · obtain ⟨x, p, m, ss, rfl, ⟨dx, t, ys, h1, h2, h3⟩, q⟩ := h
    refine ⟨_, (pss_one (ps_ret (pe_fld (pv 0) rfl))), ?_⟩
    exact ⟨.ref x, rfl, x, A.c_Thing, dx, _, _, rfl, h1, T.cl_Thing, T.n_Thing_lot, th_lot, q t ys h2 h3⟩
theorem eqv_rows : ∀ rs ss : List Row, PyData.eqvAll (rs.map rowD) (ss.map rowD) = decide (rs = ss)
  | [], [] => by simp [PyData.eqvAll]
  | [], _ :: _ => by simp [PyData.eqvAll]
  | _ :: _, [] => by simp [PyData.eqvAll]
  | u :: r, v :: s => by
    have ih := eqv_rows r s
    have e := eqv_row u v
    simp only [List.map_cons, PyData.eqvAll, e, ih]
    simp
theorem dp_rows {p : Int} {n : Nat} {H : Hp} : ∀ {xs : List V} {rs : List Row}, Rws p n H xs rs → DpAll K H xs (rs.map rowD)
  | [], [], _ => .nil
  | [], _ :: _, h => by have := h.len; simp at this
  | _ :: _, [], h => by have := h.len; simp at this
  | x :: xs, r :: rs, h => by
    obtain ⟨a, s, rfl, e, w⟩ := h.get (i := 0) (x := x) rfl
    cases e
    exact .cons (dp_row w) (dp_rows (p := p) (n := n) (xs := xs) (rs := rs) ⟨by have := h.len; simpa using this, fun {i y} e => h.get (i := i + 1) e, fun s hs => h.fit s (List.mem_cons_of_mem _ hs)⟩)
theorem sh_rows (rs : List Row) : SeqAt.shaped (.tuple (rs.map rowD)) = true := by
  have one : ∀ r : Row, PyData.canLay0 (rowD r) = true ∧ PyData.depth (rowD r) ≤ 62 := fun r => by
    have z := sh_row r
    have z' : (PyData.canLay0 (rowD r) && decide (PyData.depth (rowD r) ≤ 64)) = true := z
    rw [Bool.and_eq_true] at z'
    refine ⟨z'.1, ?_⟩
    have d1 : ∀ r : Row, PyData.depthAll (r.map pairD) ≤ 1 := fun r => by
      induction r with
      | nil => simp [PyData.depthAll]
      | cons u r ih => simp only [List.map_cons, PyData.depthAll, pairD, PyData.depth]; omega
    have := d1 r
    unfold rowD
    simp only [PyData.depth]
    omega
  have al : ∀ rs : List Row, PyData.canLayAll0 (rs.map rowD) = true ∧ PyData.depthAll (rs.map rowD) ≤ 62 := fun rs => by
    induction rs with
    | nil => simp [PyData.canLayAll0, PyData.depthAll]
    | cons r rs ih =>
      obtain ⟨a, b⟩ := one r
      simp only [List.map_cons, PyData.canLayAll0, PyData.depthAll, a, ih.1]
      exact ⟨rfl, by have := ih.2; omega⟩
  obtain ⟨a, b⟩ := al rs
  show (PyData.canLay0 (.tuple (rs.map rowD)) && decide (PyData.depth (.tuple (rs.map rowD)) ≤ 64)) = true
  rw [Bool.and_eq_true]
  exact ⟨by simp only [PyData.canLay0]; exact a, decide_eq_true (by simp only [PyData.depth]; omega)⟩
/-! ### papers of being in, as things -/
def areNumD (p n : Int) : PyData → Bool
  | .tuple ds => decide ((ds.length : Int) = n) && ds.all (isNumD p)
  | _ => false
def intOf : PyData → Int
  | .int i => i
  | _ => 0
def pairOf : PyData → Int × Int
  | .tuple [x, y] => (intOf x, intOf y)
  | _ => (0, 0)
def itemsOf : PyData → List PyData
  | .tuple ds => ds
  | _ => []
def numsOf (d : PyData) : List Int := (itemsOf d).map intOf
def rowOf (d : PyData) : Row := (itemsOf d).map pairOf
theorem areNum_false {p n : Int} {d : PyData} (e : isTup d = false) : areNumD p n d = false := by
  cases d <;> first | rfl | cases e
theorem num_of {p : Int} {d : PyData} (e : isNumD p d = true) : d = .int (intOf d) ∧ 0 ≤ intOf d ∧ intOf d < p := by
  cases d <;> first
    | cases e
    | (simp only [isNumD, Bool.and_eq_true, decide_eq_true_eq] at e
       exact ⟨rfl, e.1, e.2⟩)
theorem pair_of {p : Int} {d : PyData} (e : isPairD p d = true) : d = pairD (pairOf d) ∧ (0 ≤ (pairOf d).1 ∧ (pairOf d).1 < p) ∧ 0 ≤ (pairOf d).2 ∧ (pairOf d).2 < p := by
  match d, e with
  | .tuple [x, y], e =>
    have e' : (isNumD p x && isNumD p y) = true := e
    rw [Bool.and_eq_true] at e'
    obtain ⟨hx, x0, x1⟩ := num_of e'.1
    obtain ⟨hy, y0, y1⟩ := num_of e'.2
    refine ⟨?_, ⟨x0, x1⟩, y0, y1⟩
    show PyData.tuple [x, y] = .tuple [.int (intOf x), .int (intOf y)]
    rw [← hx, ← hy]
theorem Dq.pair {H : Hp} {x : V} {u : Int × Int} (h : Dq H x (pairD u)) : Pr H x u := by
  obtain ⟨a, b⟩ := u
  cases h with
  | tup e k =>
    cases k with
    | cons h1 k1 =>
      cases k1 with
      | cons h2 k2 =>
        cases k2
        cases h1
        cases h2
        exact ⟨_, rfl, e⟩
theorem Dq.row {p : Int} {m : Nat} {H : Hp} {x : V} {d : PyData} (h : Dq H x d) (e : isRowD p m d = true) : ∃ a, x = .ref a ∧ Rk p m H a (rowOf d) := by
  cases h <;> first
    | (simp only [isRowD] at e; exact absurd e (by decide))
    | skip
  rename_i a xs ds ha k
  simp only [isRowD, Bool.and_eq_true, decide_eq_true_eq] at e
  obtain ⟨e1, e2⟩ := e
  rw [List.all_eq_true] at e2
  refine ⟨a, rfl, ⟨xs, ha, ?_, fun {i y} hy => ?_⟩, fun u hu => ?_, ?_⟩
  · rw [k.length]
    exact (List.length_map ..).symm
  · obtain ⟨dy, ey, qy⟩ := k.get hy
    have pp := pair_of (e2 dy (List.mem_of_getElem? ey))
    rw [pp.1] at qy
    refine ⟨pairOf dy, ?_, qy.pair⟩
    show (ds.map pairOf)[i]? = _
    rw [List.getElem?_map, ey]
    rfl
  · obtain ⟨dy, hd, rfl⟩ := List.mem_map.mp (show u ∈ ds.map pairOf from hu)
    exact (pair_of (e2 dy hd)).2
  · show (ds.map pairOf).length = m
    rw [List.length_map]
    omega
theorem dq_ints {p : Int} {H : Hp} : ∀ {xs : List V} {ds : List PyData}, DqAll H xs ds → (∀ d ∈ ds, isNumD p d = true) → xs = (ds.map intOf).map V.int
  | _, [], h, _ => by
    cases h
    rfl
  | _, d :: ds, h, e => by
    cases h with
    | cons h1 h2 =>
      obtain ⟨hd, _⟩ := num_of (e d (by simp))
      rw [hd] at h1
      cases h1
      rw [dq_ints h2 fun d hd => e d (List.mem_cons_of_mem _ hd)]
      rfl
theorem Dq.nums {p n : Int} {H : Hp} {x : V} {d : PyData} (h : Dq H x d) (e : areNumD p n d = true) : ∃ a, x = .ref a ∧ H a = some (.tup ((numsOf d).map V.int)) ∧ (∀ i ∈ numsOf d, 0 ≤ i ∧ i < p) ∧ ((numsOf d).length : Int) = n := by
  cases h <;> first
    | (simp only [areNumD] at e; exact absurd e (by decide))
    | skip
  rename_i a xs ds ha k
  simp only [areNumD, Bool.and_eq_true, decide_eq_true_eq] at e
  obtain ⟨e1, e2⟩ := e
  rw [List.all_eq_true] at e2
  have ex := dq_ints k e2
  refine ⟨a, rfl, by rw [ha, ex]; rfl, fun i hi => ?_, ?_⟩
  · obtain ⟨dy, hd, rfl⟩ := List.mem_map.mp (show i ∈ ds.map intOf from hi)
    exact (num_of (e2 dy hd)).2
  · show ((ds.map intOf).length : Int) = n
    rw [List.length_map]
    exact e1
def barB (p : Int) (rs : List Row) (r u : Row) : Bool := rs.all (fun s => decide (metR p s u = 0)) && !decide (metR p r u = 0)
def isBarD (p : Int) (m : Nat) (rs : List Row) (r : Row) (d : PyData) : Bool := isRowD p m d && barB p rs r (rowOf d)
def isSumD (p : Int) (m : Nat) (rs : List Row) (r : Row) (d : PyData) : Bool := areNumD p rs.length d && decide (Lin.sumP p (noR m) ((numsOf d).zip rs) = r)
def wordB (w : PyData) (x : Str) : Bool := PyData.eqv w (.str x)
/-- what a paper tells: by its word and what is shown -/
def rightW (p : Int) (m : Nat) (rs : List Row) (r : Row) (w s : PyData) : Bool := if wordB w "sum" then isSumD p m rs r s else wordB w "bar" && isBarD p m rs r s
def rightD (p : Int) (m : Nat) (rs : List Row) (r : Row) : PyData → Bool
  | .tuple [w, s] => rightW p m rs r w s
  | _ => false
/-- the word is a text, or None -/
def isWd : PyData → Prop
  | .str x => PyData.strOk x = true
  | .none => True
  | _ => False
def Wd : PyData → Prop
  | .tuple [w, _] => isWd w
  | _ => True
theorem right_no {p : Int} {m : Nat} {rs : List Row} {r : Row} {d : PyData} (e : isTup d = false) : rightD p m rs r d = false := by
  cases d <;> first | rfl | cases e
theorem right_len {p : Int} {m : Nat} {rs : List Row} {r : Row} {ds : List PyData} (e : ¬ ((ds.length : Int) = 2)) : rightD p m rs r (.tuple ds) = false := by
  match ds, e with
  | [], _ => rfl
  | [_], _ => rfl
  | [_, _], e => exact absurd rfl e
  | _ :: _ :: _ :: _, _ => rfl
theorem At.len2 {k : Zm.Kd} {H : Hp} {a : Addr} {xs : List V} (h : At k H a xs) : SqL K H a xs ∨ SqT K H a xs := match k, h with
  | .l, h => .inl (SqL.of h)
  | .t, h => .inr (SqT.of h)
theorem sh_str {x : Str} (h : PyData.strOk x = true) : SeqAt.shaped (.str x) = true := by
  show (PyData.canLay0 (.str x) && decide (PyData.depth (.str x) ≤ 64)) = true
  simp [PyData.canLay0, PyData.depth, h]
theorem sh_sum : SeqAt.shaped (.str ("sum" : Str)) = true := sh_str (by decide +kernel)
theorem sh_bar : SeqAt.shaped (.str ("bar" : Str)) = true := sh_str (by decide +kernel)
theorem sh_non : SeqAt.shaped .none = true := by
  show (PyData.canLay0 .none && decide (PyData.depth .none ≤ 64)) = true
  simp [PyData.canLay0, PyData.depth]
theorem Dq.wd {H : Hp} {x : V} {w : PyData} (h : Dq H x w) (e : isWd w) : Dp K H x w ∧ SeqAt.shaped w = true := by
  cases h <;> first | exact ⟨.non, sh_non⟩ | exact ⟨.str _, sh_str e⟩ | cases e
theorem int_eq {a b : Int} : decide (V.int a = V.int b) = decide (a = b) := by
  by_cases h : a = b
  · rw [h, decide_eq_true rfl, decide_eq_true rfl]
  · rw [decide_eq_false h, decide_eq_false fun z => h (V.int.inj z)]
/-! ### the program's judge -/
def Few (d : PyData) : Prop := ∀ ds, d = .tuple ds → ds.length ≤ 100000
theorem add_lenR {p : Int} {m : Nat} {r s : Row} (h1 : r.length = m) (h2 : s.length = m) : (addR p r s).length = m := by
  unfold addR
  rw [List.length_zipWith]
  omega
def spTog (P1 P2 : Addr) : Sp := fun vs H Q _ => ∃ (p : Int) (m : Nat) (a b : Addr) (j k : Zm.Kd) (ns : List Int) (xs : List V) (rs : List Row), vs = [.int p, .int m, .ref a, .ref b] ∧ 0 < p ∧ p ≤ 13 ∧ m ≤ 20 ∧ At j H a (ns.map V.int) ∧ At k H b xs ∧ Rws p m H xs rs ∧ ns.length = rs.length ∧ (∀ n ∈ ns, 0 ≤ n ∧ n < 13) ∧ GxR.TabG H P1 ∧ GxR.TabG H P2 ∧
  ∀ t H', Sm H H' → Rk p m H' t (sumP p (noR m) (ns.zip rs)) → Q (.ref t) H'
theorem ok_together (T : Tx K mg A) (B : Tb K mg base A C) : FnOk P w K mg base CX0 7 A.f_together A.d_together ["p", "posts", "numbers", "rows"] (spTog C.p_added C.p_times) := by
  have G_nought : FnOk P w K mg base CX0 1 A.f_nought A.d_nought ["posts"] spNought := ok_nought T
  have G_added : FnOk P w K mg base CX0 6 A.f_added A.d_added ["p", "one", "other"] (spAdded C.p_added) := ok_added T B
  have G_times : FnOk P w K mg base CX0 6 A.f_times A.d_times ["p", "number", "row"] (spTimes C.p_times) := ok_times T B
  refine T.d_together.F.ok sc_together (fun vs H Q E h => ?_) (fun cdv A outer s H vs Q E hr h => ?_)
  · obtain ⟨p, m, a, b, j, k, ns, xs, rs, rfl, _⟩ := h
    rfl
  · obtain ⟨p, m, a, b, j, k, ns, xs, rs, rfl, p0, p13, hm, ha, hb, hrs, hle, hn, ta, tt, q⟩ := h
    refine ⟨_, (pss_cons (ps_set (i := 4) sc_together.nd rfl (.inl rfl) (pe_call G_nought (hr.mono (by decide)) (by rfl) T.d_nought.g T.d_nought.F.kp T.d_nought.b .nil pass0 (pa_cons (pv 1) pa_nil)))
        (pss_cons (ps_for PassesOwn.never rfl (Zm.pi_zipK (by rfl) T.b_zip (pa_cons (pv 2) (pa_cons (pv 3) pa_nil))) (pg_tup rfl (pgs_cons (pg_name (i := 5) sc_together.nd rfl (.inl rfl)) (pgs_cons (pg_name (i := 6) sc_together.nd rfl (.inl rfl)) pgs_nil)))
        (pss_one (ps_set (i := 4) sc_together.nd rfl (.inl rfl) (pe_call G_added hr (by rfl) T.d_added.g T.d_added.F.kp T.d_added.b .nil pass0 (pa_cons (pv 0) (pa_cons (pv 4) (pa_cons (pe_call G_times hr (by rfl) T.d_times.g T.d_times.F.kp T.d_times.b .nil pass0 (pa_cons (pv 0) (pa_cons (pv 5) (pa_cons (pv 6) pa_nil)))) pa_nil)))))))
        (pss_one (ps_ret (pv 4))))), ?_⟩
    refine ⟨.int m, rfl, m, rfl, by omega, by omega, fun t0 H0 s0 w0 => ?_⟩
    rw [Int.toNat_natCast] at w0
    have hxl := hrs.len
    refine ⟨.ref a, rfl, .ref b, rfl, j, k, a, b, _, _, rfl, (ha.sm s0).sq, (hb.sm s0).sq, for_it (Zm.walk2 (xs := ns.map V.int) (ys := xs) (by rw [List.length_map]; omega)) (fun i σ H' => ∃ t v5 v6, σ = [some (.int p), some (.int m), some (.ref a), some (.ref b), some (.ref t), v5, v6] ∧ Sm H H' ∧ Rk p m H' t (sumP p (noR m) ((ns.zip rs).take i)))
      ⟨t0, _, _, rfl, s0, w0, in_noR p0 m, by simp [noR, sumP]⟩ (fun i σ H' _ h => by obtain ⟨_, _, _, _, s, _⟩ := h; exact ⟨(ha.sm s).sq, (hb.sm s).sq⟩) ?_ ?_⟩
    · rintro i x σ H1 H2 hi ⟨t, v5, v6, rfl, s1, k1⟩ ⟨T1, x1, y1, rfl, hT, rfl, hx, hy⟩
      dsimp only at hx hy
      rw [List.getElem?_map] at hx
      obtain ⟨n, en, rfl⟩ := Option.map_eq_some_iff.mp hx
      obtain ⟨c, r, rfl, er, kr⟩ := (hrs.sm s1).rk hy
      have sT : Sm H1 (upd H1 T1 (.tup [.int n, .ref c])) := .new hT
      obtain ⟨n0, n1⟩ := hn n (List.mem_of_getElem? en)
      refine ⟨T1, [.int n, .ref c], rfl, SqT.of upd_same, rfl, .int n, [.ref c], rfl, .ref c, [], rfl, rfl, ?_⟩
      have k2 := k1.sm sT
      have kr2 := kr.sm sT
      have s2 : Sm H (upd H1 T1 (.tup [.int n, .ref c])) := s1.trans sT
      generalize upd H1 T1 (.tup [.int n, .ref c]) = H3 at k2 kr2 s2 ⊢
      refine ⟨.int p, rfl, .ref t, rfl, .int p, rfl, .int n, rfl, .ref c, rfl, p, n, c, r, rfl, p0, n0, n1, kr2.rw, kr2.fit p13 hm, s2.tb _ tt, fun t2 H4 s4 w4 => ?_⟩
      have l4 : (timR p n r).length = m := by
        unfold timR
        rw [List.length_map]
        exact kr.len
      refine ⟨p, t, t2, _, _, rfl, p0, (k2.sm s4).rw, w4, k2.fit p13 hm, by rw [k2.len, l4], (s2.trans s4).tb _ ta, fun t3 H5 s5 w5 => ?_⟩
      refine ⟨t3, _, _, rfl, (s2.trans s4).trans s5, ?_⟩
      rw [sumP_snoc en er]
      exact ⟨w5, in_addR p0 _ _, add_lenR k2.len l4⟩
    · rintro σ H1 ⟨t, v5, v6, rfl, s1, k1⟩
      have e : (ns.zip rs).take (ns.map V.int).length = ns.zip rs := List.take_of_length_le (by rw [List.length_zip, List.length_map]; omega)
      rw [e] at k1
      exact ⟨.ref t, rfl, q t H1 s1 k1⟩
theorem Dq.sm {H H' : Hp} {v : V} {d : PyData} (h : Dq H v d) (s : Sm H H') : Dq H' v d := Dq.mono (fun a o e => ⟨fun xs z => s.kp _ _ (by rw [z]; intro ps q; cases q) e, fun xs z => s.kp _ _ (by rw [z]; intro ps q; cases q) e, fun z => s.kp _ _ (by rw [z]; intro ps q; cases q) e⟩) d v h
/-! ### slices, tuples put together -/
theorem cat_read {H : Hp} {Q : VK} {a b : Addr} {xs ys : List V} (ha : H a = some (.tup xs)) (hb : H b = some (.tup ys)) (hl : xs.length + ys.length ≤ 1000) (q : ∀ t H', Same H H' → H' t = some (.tup (xs ++ ys)) → Q (.ref t) H') : rCatA K (.ref a) (.ref b) H Q := by
  refine ⟨a, b, xs, ys, rfl, rfl, SqT.of ha, SqT.of hb, Nat.le_of_lt (small hl), fun e => ?_, fun _ e => ?_, fun _ _ t ht => q t _ (same_upd ht) upd_same⟩
  · subst e
    exact q b H (Same.refl _) hb
  · subst e
    exact q a H (Same.refl _) (by rw [List.append_nil]; exact ha)
theorem sl_read {H : Hp} {Q : VK} {a : Addr} {xs : List V} {lo hi : Option Int} (ha : H a = some (.tup xs)) (q : ∀ t H', Same H H' → H' t = some (.tup (cutV xs lo hi)) → Q (.ref t) H') : rSlA K (.ref a) lo hi H Q := by
  refine ⟨a, xs, rfl, SqT.of ha, fun e => ?_, fun _ t ht => q t _ (same_upd ht) upd_same⟩
  refine q a H (Same.refl _) ?_
  unfold cutV
  rw [e.1, e.2]
  simpa using ha
theorem cut_to {xs : List V} {k : Nat} : cutV xs none (some (k : Int)) = xs.take k := by
  unfold cutV
  rw [HT.sIx_nat, HT.sIx_none]
  simp
theorem cut_from {xs : List V} {k : Nat} (h : k ≤ xs.length) : cutV xs (some (k : Int)) none = xs.drop k := by
  unfold cutV
  rw [HT.sIx_nat, HT.sIx_none, Nat.min_eq_left h]
  exact List.take_of_length_le (by rw [List.length_drop]; exact Nat.le_refl _)
theorem cut_one {xs : List V} {k : Nat} (h : k < xs.length) : cutV xs (some (k : Int)) (some ((k + 1 : Nat) : Int)) = [xs[k]] := by
  unfold cutV
  rw [HT.sIx_nat, HT.sIx_nat, Nat.min_eq_left (by omega), Nat.min_eq_left (by omega), List.drop_eq_getElem_cons h]
  have e : k + 1 - k = 1 := by omega
  rw [e]
  rfl
theorem Prs.take {H : Hp} {xs : List V} {r : Row} (h : Prs H xs r) (k : Nat) : Prs H (xs.take k) (r.take k) := by
  refine ⟨by rw [List.length_take, List.length_take, h.len], fun {i x} e => ?_⟩
  by_cases hi : i < k
  · rw [List.getElem?_take, if_pos hi] at e ⊢
    exact h.get e
  · rw [List.getElem?_take, if_neg hi] at e
    cases e
theorem Prs.drop {H : Hp} {xs : List V} {r : Row} (h : Prs H xs r) (k : Nat) : Prs H (xs.drop k) (r.drop k) := by
  refine ⟨by rw [List.length_drop, List.length_drop, h.len], fun {i x} e => ?_⟩
  rw [List.getElem?_drop] at e ⊢
  exact h.get e
theorem Prs.append {H : Hp} {xs ys : List V} {r s : Row} (h : Prs H xs r) (k : Prs H ys s) : Prs H (xs ++ ys) (r ++ s) := by
  refine ⟨by rw [List.length_append, List.length_append, h.len, k.len], fun {i x} e => ?_⟩
  by_cases hi : i < xs.length
  · rw [List.getElem?_append_left hi] at e
    rw [List.getElem?_append_left (by rw [← h.len]; exact hi)]
    exact h.get e
  · rw [List.getElem?_append_right (by omega)] at e
    rw [List.getElem?_append_right (by rw [← h.len]; omega), ← h.len]
    exact k.get e
/-! ### things by units: the mathematics over rows -/
theorem cg_mod0 {p a : Int} (h : Lin.Cg p a 0) : a % p = 0 := by
  obtain ⟨c, hc⟩ := h
  rw [hc, Int.zero_add]
  exact Int.mul_emod_right ..
theorem inv_all {p : Int} (hp : p ∈ prs) : ∀ u, 0 < u → u < p → ∃ c, c * u % p = 1 := fun u h0 h1 => ⟨_, (pw_inv hp h0 h1).2.2⟩
theorem units_rw_fair {p : Int} {hs : List Int} {gs : List (List Int)} {rs : List Row} (p1 : 1 < p) (sy : Lin.Sy gs) (lr : ∀ r ∈ rs, r.length = hs.length) (lt : ∀ r ∈ rs, Lin.Lot p (Lin.spn ((Lin.unitsP p hs gs).map flatR)) (vec (flatR r))) : ∀ r ∈ rs, ∀ s ∈ rs, metR p r s = 0 := fun r hr s hs' => by
  unfold metR mets
  exact cg_mod0 (Lin.lot_fair (m := hs.length) (rs := Lin.unitsP p hs gs) (fun r hr => (Lin.units_fit p1 r hr).2) (Lin.units_fair sy) (lr r hr) (lr s hs') (lt r hr) (lt s hs'))
theorem rows_same {rs ss : List Row} (h : rs.map flatR = ss.map flatR) : rs = ss := by
  induction rs generalizing ss with
  | nil =>
    cases ss with
    | nil => rfl
    | cons _ _ => cases h
  | cons r rs ih =>
    cases ss with
    | nil => cases h
    | cons s ss =>
      obtain ⟨h1, h2⟩ := List.cons.inj h
      rw [Lin.flat_inj h1, ih h2]
theorem span_app {p : Int} {ss ts us : List Row} (h : Span p ss us) (k : ∀ r ∈ ts, Lin.Lot p (Lin.spn (us.map flatR)) (vec (flatR r))) : Span p (ss ++ ts) us := fun u => by
  refine Lin.Lot.iff (fun v hv => ?_) (fun v hv => ?_) u
  · obtain ⟨f, hf, rfl⟩ := hv
    obtain ⟨r, hr, rfl⟩ := List.mem_map.mp hf
    rcases List.mem_append.mp hr with m | m
    · exact (h _).mp (.of ⟨flatR r, List.mem_map.mpr ⟨r, m, rfl⟩, rfl⟩)
    · exact k r m
  · have a := (h v).mpr (.of hv)
    refine Lin.Lot.sub (fun w hw => ?_) a
    obtain ⟨f, hf, rfl⟩ := hw
    obtain ⟨r, hr, rfl⟩ := List.mem_map.mp hf
    exact .of ⟨flatR r, List.mem_map.mpr ⟨r, List.mem_append_left _ hr, rfl⟩, rfl⟩
theorem no_lot {p : Int} {m : Nat} {R : Lin.Vc → Prop} : Lin.Lot p R (vec (flatR (noR m))) := .eqv .zero fun i => by
  have e : vec (flatR (noR m)) i = 0 := Lin.vec_noP m
  rw [e]
  exact Lin.Cg.rfl'
theorem span_mem {p : Int} {ss us : List Row} (h : Span p ss us) {r : Row} (hr : r ∈ ss) : Lin.Lot p (Lin.spn (us.map flatR)) (vec (flatR r)) := (h _).mp (.of ⟨flatR r, List.mem_map.mpr ⟨r, hr, rfl⟩, rfl⟩)
/-- a thing is made: what stood stays -/
theorem make_sm {H H' : Hp} {x dx c : Addr} (nx : H x = none) (ndx : H dx = none) (f : Fs x x (upd (upd H dx (.own x)) x (.ins c dx [])) H') : Sm H H' := by
  have k : ∀ b o, H b = some o → b ≠ x ∧ upd (upd H dx (.own x)) x (.ins c dx []) b = some o := fun b o e => by
    have n1 : b ≠ x := ne_of_none e nx
    exact ⟨n1, by rw [upd_ne n1, upd_ne (ne_of_none e ndx)]; exact e⟩
  refine ⟨fun b o n e => ?_, fun P ⟨ps, e, t⟩ => ?_⟩
  · obtain ⟨n1, e1⟩ := k b o e
    exact f.kp b o n n1 n1 e1
  · obtain ⟨n1, e1⟩ := k P _ e
    exact f.tb P n1 n1 ⟨ps, e1, t⟩
theorem make_same {H : Hp} {x dx c : Addr} (nx : H x = none) (ndx : H dx = none) (ne : dx ≠ x) : Same H (upd (upd H dx (.own x)) x (.ins c dx [])) := fun b o e => by
  rw [upd_ne (ne_of_none e nx), upd_ne (ne_of_none e ndx)]
  exact e
theorem Rws.takeT {p : Int} {n : Nat} {H : Hp} {xs : List V} {rs : List Row} (h : Rws p n H xs rs) (k : Nat) : Rws p n H (xs.take k) (rs.take k) := by
  refine ⟨by rw [List.length_take, List.length_take, h.len], fun {i x} e => ?_, fun s hs => h.fit s (List.mem_of_mem_take hs)⟩
  have hi : i < k := by
    have := (List.getElem?_eq_some_iff.mp e).1
    rw [List.length_take] at this
    omega
  rw [List.getElem?_take, if_pos hi] at e
  rw [List.getElem?_take, if_pos hi]
  exact h.get e
theorem Rws.app {p : Int} {n : Nat} {H : Hp} {xs ys : List V} {rs ss : List Row} (h : Rws p n H xs rs) (h2 : Rws p n H ys ss) : Rws p n H (xs ++ ys) (rs ++ ss) := by
  refine ⟨by rw [List.length_append, List.length_append, h.len, h2.len], fun {i x} e => ?_, fun r hr => ?_⟩
  · by_cases hi : i < xs.length
    · rw [List.getElem?_append_left hi] at e
      rw [List.getElem?_append_left (by rw [← h.len]; exact hi)]
      exact h.get e
    · rw [List.getElem?_append_right (by omega)] at e
      rw [List.getElem?_append_right (by rw [← h.len]; omega), ← h.len]
      exact h2.get e
  · rcases List.mem_append.mp hr with m | m
    · exact h.fit r m
    · exact h2.fit r m
theorem rep_read {H : Hp} {Q : VK} {l : Addr} {x : V} {k : Int} (hl : H l = some (.tup [x])) (h0 : 0 ≤ k) (h1 : k ≤ 1000) (q : ∀ t H', Same H H' → H' t = some (.tup (List.replicate k.toNat x)) → Q (.ref t) H') : Gx.rRepA K (.ref l) (.int k) H Q := by
  refine ⟨l, k, [x], rfl, rfl, SqT.of hl, by simp, h0, h1, (by show 1 ≤ 1000; decide), fun e => ?_, fun _ t ht => q t _ (same_upd ht) (by rw [upd_same, rep_one])⟩
  subst e
  exact q l H (Same.refl _) hl
-- CUT
/-! ### rows by the sides of a hold -/
def spSided : Sp := fun vs H Q _ => ∃ (p : Int) (t1 t2 : Addr) (hs : List Int) (r : Row), vs = [.int p, .ref t1, .ref t2] ∧ 0 < p ∧ p ≤ 13 ∧ HdAt H t1 hs ∧ Rk p hs.length H t2 r ∧ ∀ t H', Same H H' → H t = none → Fl H' t (Lin.sdP p hs r) → Q (.ref t) H'
set_option maxHeartbeats 1000000 in
theorem ok_sided (T : Tx K mg A) : FnOk P w K mg base CX0 1 A.f_sided A.d_sided ["p", "hold", "row"] spSided := by
  refine T.d_sided.F.ok sc_sided (fun vs H Q E h => ?_) (fun cdv A outer s H vs Q E hr h => ?_)
  · obtain ⟨p, t1, t2, hs, r, rfl, _⟩ := h
    rfl
  · obtain ⟨p, t1, t2, hs, r, rfl, p0, p13, hh, kr, q⟩ := h
    have hl := hh.len
    obtain ⟨⟨xs, ex, hx⟩, inr, lr⟩ := kr
    have xl := hx.len
    refine ⟨_, (pss_cons (ps_setLc (i := 3) (own := [("side", 5), ("pair", 6)]) (g := (gTup K 2 (gCons (gName 5) (gCons (gName 6) gNil)))) rfl sc_sided.nd rfl rfl (sw_true rfl rfl rfl (by decide +kernel)) (Zm.pi_zipK (by rfl) T.b_zip (pa_cons (pv 1) (pa_cons (pv 2) pa_nil))) (blkOk_by (N := N_sided) (sc := defScope s_sided) (by decide +kernel)) (fun _ _ _ _ _ => (pg_tup rfl (pgs_cons (pg_name (i := 5) sc_sided.nd rfl (.inl rfl)) (pgs_cons (pg_name (i := 6) sc_sided.nd rfl (.inl rfl)) pgs_nil)))) (fun _ _ _ _ _ => pts_nil) (fun _ _ _ _ _ => (pe_ix (show IxR _ (rIxT K) from ix_tup) (pv 6) (pv 5) (fun _ _ => rfl))))
        (pss_cons (ps_setLc (i := 4) (own := [("side", 5), ("push", 7), ("answer", 8)]) (g := (gTup K 2 (gCons (gName 5) (gCons (gTup K 2 (gCons (gName 7) (gCons (gName 8) gNil))) gNil)))) rfl sc_sided.nd rfl rfl (sw_true rfl rfl rfl (by decide +kernel)) (Zm.pi_zipK (by rfl) T.b_zip (pa_cons (pv 1) (pa_cons (pv 2) pa_nil))) (blkOk_by (N := N_sided) (sc := defScope s_sided) (by decide +kernel)) (fun _ _ _ _ _ => (pg_tup rfl (pgs_cons (pg_name (i := 5) sc_sided.nd rfl (.inl rfl)) (pgs_cons (pg_tup rfl (pgs_cons (pg_name (i := 7) sc_sided.nd rfl (.inl rfl)) (pgs_cons (pg_name (i := 8) sc_sided.nd rfl (.inl rfl)) pgs_nil))) pgs_nil)))) (fun _ _ _ _ _ => pts_nil) (fun _ _ _ _ _ => (pe_ifExp (pt_cmpR op_eq (pv 5) pe_int (nomark _)) (pv 8) (pe_op op_mod (pe_un un_neg (pv 7)) (pv 0)))))
        (pss_one (ps_ret (pe_op op_cat (pv 3) (pv 4)))))), ?_⟩
    refine ⟨.ref t1, rfl, .ref t2, rfl, .t, .t, t1, t2, _, _, rfl, SqT.of hh.at_, SqT.of ex, fun D hD => lc_it (σ := [some (.int p), some (.ref t1), some (.ref t2), none, none, none, none, none, none]) (vs := [5, 6]) (Zm.walk2 (xs := hs.map V.int) (ys := xs) (by rw [List.length_map]; omega)) (fun i H' => Same H H' ∧ H' D = some (.lst (((List.zipWith (fun h u => if h = 0 then u.1 else u.2) hs r).take i).map V.int))) ⟨same_upd hD, upd_same⟩ (fun i H' _ h => ⟨SqT.of (h.1 _ _ hh.at_), SqT.of (h.1 _ _ ex)⟩) ?_ ?_⟩
    · rintro i x H1 H2 hi ⟨s1, eD⟩ ⟨T1, x1, y1, rfl, hT, rfl, hx1, hy1⟩
      dsimp only at hx1 hy1
      rw [List.getElem?_map] at hx1
      obtain ⟨h, eh, rfl⟩ := Option.map_eq_some_iff.mp hx1
      obtain ⟨u, eu, b, rfl, hb⟩ := hx.get hy1
      have s2 : Same H (upd H1 T1 (.tup [.int h, .ref b])) := s1.trans (same_upd hT)
      have eD2 : upd H1 T1 (.tup [.int h, .ref b]) D = _ := same_upd hT _ _ eD
      have ez : (List.zipWith (fun h u => if h = 0 then u.1 else u.2) hs r)[i]? = some (if h = 0 then u.1 else u.2) := by
        rw [List.getElem?_zipWith, eh, eu]
      have ea : atI [V.int u.1, V.int u.2] h = some (.int (if h = 0 then u.1 else u.2)) := by
        rcases hh.bit h (List.mem_of_getElem? eh) with z | z
        · subst z
          rfl
        · subst z
          rfl
      refine ⟨T1, [.int h, .ref b], rfl, SqT.of upd_same, rfl, .int h, [.ref b], rfl, .ref b, [], rfl, rfl, ?_⟩
      dsimp only [wipe, List.set]
      refine ⟨rfl, .ref b, rfl, .int h, rfl, b, _, h, .int (if h = 0 then u.1 else u.2), rfl, rfl, SqT.of (s2 _ _ hb), ea, _, eD2, ?_, same_put s2 hD, ?_⟩
      · rw [List.length_map, List.length_take, List.length_zipWith]
        exact small (by omega)
      · rw [upd_same, take_snoc ez, List.map_append]
        rfl
    · rintro H1 ⟨s1, eD⟩
      rw [List.take_of_length_le (by rw [List.length_zipWith, List.length_map]; omega)] at eD
      refine ⟨.ref t1, rfl, .ref t2, rfl, .t, .t, t1, t2, _, _, rfl, SqT.of (s1 _ _ hh.at_), SqT.of (s1 _ _ ex), fun D2 hD2 => lc_it (σ := [some (.int p), some (.ref t1), some (.ref t2), some (.ref D), none, none, none, none, none]) (vs := [5, 7, 8]) (Zm.walk2 (xs := hs.map V.int) (ys := xs) (by rw [List.length_map]; omega)) (fun i H' => Same H1 H' ∧ H' D2 = some (.lst (((List.zipWith (fun h u => if h = 0 then u.2 else -u.1 % p) hs r).take i).map V.int))) ⟨same_upd hD2, upd_same⟩ (fun i H' _ h => ⟨SqT.of ((s1.trans h.1) _ _ hh.at_), SqT.of ((s1.trans h.1) _ _ ex)⟩) ?_ ?_⟩
      · rintro i x H2 H3 hi ⟨s2, eD2⟩ ⟨T1, x1, y1, rfl, hT, rfl, hx1, hy1⟩
        dsimp only at hx1 hy1
        rw [List.getElem?_map] at hx1
        obtain ⟨h, eh, rfl⟩ := Option.map_eq_some_iff.mp hx1
        obtain ⟨u, eu, b, rfl, hb⟩ := hx.get hy1
        have s3 : Same H1 (upd H2 T1 (.tup [.int h, .ref b])) := s2.trans (same_upd hT)
        have eD3 : upd H2 T1 (.tup [.int h, .ref b]) D2 = _ := same_upd hT _ _ eD2
        have hb3 := (s1.trans s3) _ _ hb
        have ez : (List.zipWith (fun h u => if h = 0 then u.2 else -u.1 % p) hs r)[i]? = some (if h = 0 then u.2 else -u.1 % p) := by
          rw [List.getElem?_zipWith, eh, eu]
        have zl : (((List.zipWith (fun h u => if h = 0 then u.2 else -u.1 % p) hs r).take i).map V.int).length < sizeLine := by
          rw [List.length_map, List.length_take, List.length_zipWith]
          exact small (by omega)
        refine ⟨T1, [.int h, .ref b], rfl, SqT.of upd_same, rfl, .int h, [.ref b], rfl, .ref b, [], rfl, ?_⟩
        refine ⟨b, [.int u.1, .int u.2], rfl, SqT.of hb3, rfl, .int u.1, [.int u.2], rfl, .int u.2, [], rfl, rfl, rfl, ?_⟩
        dsimp only [wipe, List.set]
        refine ⟨rfl, .int h, rfl, rfl, _, rfl, ite2 (fun e => ?_) (fun e => ?_)⟩
        · have e' : h = 0 := V.int.inj (of_decide_eq_true e)
          rw [if_pos e'] at ez
          refine ⟨.int u.2, rfl, _, eD3, zl, same_put s3 hD2, ?_⟩
          rw [upd_same, take_snoc ez, List.map_append]
          rfl
        · have e' : ¬ h = 0 := fun z => e (decide_eq_true (congrArg V.int z))
          rw [if_neg e'] at ez
          refine ⟨.int u.1, rfl, _, rfl, .int p, rfl, _, p, rfl, rfl, p0, _, eD3, zl, same_put s3 hD2, ?_⟩
          rw [upd_same, take_snoc ez, List.map_append]
          rfl
      · rintro H2 ⟨s2, eD2⟩
        rw [List.take_of_length_le (by rw [List.length_zipWith, List.length_map]; omega)] at eD2
        refine ⟨.ref D, rfl, .ref D2, rfl, D, D2, _, _, rfl, rfl, s2 _ _ eD, eD2, ?_, fun t ht => ?_⟩
        · rw [List.length_map, List.length_map, List.length_zipWith, List.length_zipWith]
          exact Nat.le_of_lt (small (by omega))
        · refine q t _ ((s1.trans s2).trans (same_upd ht)) ((s1.trans s2).free ht) ?_
          unfold Fl Lin.sdP
          rw [upd_same, List.map_append]
def spSLeads : Sp := fun vs H Q _ => ∃ (p : Int) (t1 a : Addr) (hs : List Int) (k : Zm.Kd) (xs : List V) (rs : List Row), vs = [.int p, .ref t1, .ref a] ∧ p ∈ ([2, 3, 5, 7, 11, 13] : List Int) ∧ HdAt H t1 hs ∧ At k H a xs ∧ Rws p hs.length H xs rs ∧ xs.length ≤ 200 ∧
  ∀ (d : Addr) (kvs : List (Key × V)) (L : List (Nat × List Int)) (H' : Hp), Sm H H' → H' d = some (.dK kvs) → KvL H' kvs L → PL p (2 * hs.length) (rs.map (Lin.sdP p hs)) L → Up L → Q (.ref d) H'
theorem HdAt.sm {H H' : Hp} {t : Addr} {hs : List Int} (h : HdAt H t hs) (s : Sm H H') : HdAt H' t hs := ⟨s.tup h.at_, h.bit, h.len⟩
theorem ok_side_leads (T : Tx K mg A) : FnOk P w K mg base CX0 4 A.f_side_leads A.d_side_leads ["p", "hold", "rows"] spSLeads := by
  have G_leads_of : FnOk P w K mg base CX0 3 A.f_leads_of A.d_leads_of ["p", "flats"] spLeads := ok_leads_of T
  have G_sided : FnOk P w K mg base CX0 1 A.f_sided A.d_sided ["p", "hold", "row"] spSided := ok_sided T
  refine T.d_side_leads.F.ok sc_side_leads (fun vs H Q E h => ?_) (fun cdv A outer s H vs Q E hr h => ?_)
  · obtain ⟨p, t1, a, hs, k, xs, rs, rfl, _⟩ := h
    rfl
  · obtain ⟨p, t1, a, hs, k, xs, rs, rfl, hp, hh, ha, hrs, hxl, q⟩ := h
    have pall : ∀ p ∈ ([2, 3, 5, 7, 11, 13] : List Int), 2 ≤ p ∧ p ≤ 13 := by decide
    obtain ⟨p2, p13⟩ := pall p hp
    have hl := hh.len
    refine ⟨_, (pss_one (ps_ret (pe_call G_leads_of hr (by rfl) T.d_leads_of.g T.d_leads_of.F.kp T.d_leads_of.b .nil pass0 (pa_cons (pv 0) (pa_cons (pe_lc (own := [("row", 3)]) rfl sc_side_leads.nd (Zm.pi_kd (pv 2)) (blkOk_by (N := N_side_leads) (sc := defScope s_side_leads) (by decide +kernel)) (fun _ _ _ _ _ => (pg_name (i := 3) sc_side_leads.nd rfl (.inl rfl))) (fun _ _ _ _ _ => pts_nil) (fun _ _ _ _ _ => (pe_call G_sided (hr.mono (by decide)) (by rfl) T.d_sided.g T.d_sided.F.kp T.d_sided.b .nil pass0 (pa_cons (pv 0) (pa_cons (pv 1) (pa_cons (pv 3) pa_nil)))))) pa_nil))))), ?_⟩
    refine ⟨.int p, rfl, .ref a, rfl, a, k, xs, rfl, ha.sq, fun D hD => lc_it Zm.walkq (fun i H' => Sm H H' ∧ ∃ ys, H' D = some (.lst ys) ∧ V.ref D ∉ ys ∧ Fls .l H' ys ((rs.map (Lin.sdP p hs)).take i)) ⟨.new hD, [], upd_same, by simp, by simpa using Fls.nil⟩ (fun i H' _ h => (ha.sm h.1).sq) ?_ ?_⟩
    · rintro i x H1 H2 hi ⟨s1, ys, eD, nD, fy⟩ ⟨rfl, hx⟩
      obtain ⟨b, r, rfl, er, kr⟩ := (hrs.sm s1).rk hx
      refine ⟨rfl, .int p, rfl, .ref t1, rfl, .ref b, rfl, p, t1, b, hs, r, rfl, by omega, p13, hh.sm s1, kr, fun t H3 s3 ht f3 => ?_⟩
      have neD : D ≠ t := ne_of_none eD ht
      have eD3 := s3 _ _ eD
      have ly := fy.len
      rw [List.length_take, List.length_map] at ly
      have nD' : V.ref D ∉ ys ++ [V.ref t] := fun z => by
        rcases List.mem_append.mp z with z | z
        · exact nD z
        · exact neD (V.ref.inj (List.mem_singleton.mp z))
      refine ⟨ys, eD3, small (by omega), (s1.trans (.of_same s3)).put hD, ys ++ [.ref t], upd_same, nD', ?_⟩
      have e2 : (rs.map (Lin.sdP p hs))[i]? = some (Lin.sdP p hs r) := by rw [List.getElem?_map, er]; rfl
      rw [take_snoc e2]
      have z := (fy.sm (.of_same s3)).snoc f3
      refine ⟨z.len, fun e => ?_⟩
      obtain ⟨c, g, h1, h2, h3⟩ := z.get e
      refine ⟨c, g, h1, h2, ?_⟩
      show L2.upd H3 D _ c = _
      rw [upd_ne]
      · exact h3
      · intro w
        exact nD' (by rw [← w, ← h1]; exact List.mem_of_getElem? e)
    · rintro H1 ⟨s1, ys, eD, _, fy⟩
      have e2 : (rs.map (Lin.sdP p hs)).take xs.length = rs.map (Lin.sdP p hs) := List.take_of_length_le (by rw [List.length_map, hrs.len]; exact Nat.le_refl _)
      rw [e2] at fy
      refine ⟨p, 2 * hs.length, D, .l, ys, _, rfl, hp, by omega, eD, fy, ?_, ?_, fun d kvs L H2 s2 ed kv pl up => q d kvs L H2 (s1.trans s2) ed kv pl up⟩
      · rw [fy.len, List.length_map, ← hrs.len]
        omega
      · intro f hf
        obtain ⟨r, hr2, rfl⟩ := List.mem_map.mp hf
        obtain ⟨h1, h2⟩ := hrs.fit r hr2
        exact ⟨Lin.sd_len h2, Lin.sd_rg (by omega) h1⟩
-- CUT
/-! ### rows out of sides, tables -/
def rosP (p : Int) (hs ns ts : List Int) : Row := (List.range hs.length).map fun j => if vec hs j = 0 then (vec ns j, vec ts j) else (-vec ts j % p, vec ns j)
theorem ros_len {p : Int} {hs ns ts : List Int} : (rosP p hs ns ts).length = hs.length := by
  unfold rosP
  rw [List.length_map, List.length_range]
theorem ros_get {p : Int} {hs ns ts : List Int} {j : Nat} (h : j < hs.length) : (rosP p hs ns ts)[j]? = some (if vec hs j = 0 then (vec ns j, vec ts j) else (-vec ts j % p, vec ns j)) := by
  unfold rosP
  rw [List.getElem?_map, List.getElem?_range h]
  rfl
theorem ros_in {p : Int} {hs ns ts : List Int} (p0 : 0 < p) (h1 : Rg p ns) (h2 : Rg p ts) : In p (rosP p hs ns ts) := fun u hu => by
  obtain ⟨j, _, rfl⟩ := List.mem_map.mp hu
  have a := h1.vec p0 j
  have b := h2.vec p0 j
  split
  · exact ⟨a, b⟩
  · exact ⟨⟨Int.emod_nonneg _ (by omega), Int.emod_lt_of_pos _ p0⟩, a⟩
theorem ros_st {p : Int} {hs ns : List Int} {gs : List (List Int)} (p0 : 0 < p) : rosP p hs ns (Lin.toldL p gs ns hs.length) = Lin.stP p hs gs ns := by
  unfold rosP Lin.stP
  apply List.map_congr_left
  intro j hj
  have hj' := List.mem_range.mp hj
  have e : vec (Lin.toldL p gs ns hs.length) j = Lin.toldV gs (vec ns) hs.length j % p := by
    refine Lin.vec_some ?_
    unfold Lin.toldL
    rw [List.getElem?_map, List.getElem?_range hj']
    rfl
  rw [e, Int.zero_sub]
def spRos (P1 : Addr) : Sp := fun vs H Q _ => ∃ (p : Int) (t1 t2 t3 : Addr) (j k : Zm.Kd) (hs ns ts : List Int), vs = [.int p, .ref t1, .ref t2, .ref t3] ∧ 0 < p ∧ HdAt H t1 hs ∧ At j H t2 (ns.map V.int) ∧ At k H t3 (ts.map V.int) ∧ ns.length = hs.length ∧ ts.length = hs.length ∧ Rg p ns ∧ Rg p ts ∧ GxR.TabG H P1 ∧
  ∀ t H', Sm H H' → Rk p hs.length H' t (rosP p hs ns ts) → Q (.ref t) H'
set_option maxHeartbeats 1000000 in
theorem ok_row_of_sides (T : Tx K mg A) (B : Tb K mg base A C) : FnOk P w K mg base CX0 6 A.f_row_of_sides A.d_row_of_sides ["p", "hold", "held", "told"] (spRos C.p_row_of_sides) := by
  refine B.k_row_of_sides.ok sc_row_of_sides (fun vs H Q E h => ?_) (fun A outer s H vs Q E hr h => ?_)
  · obtain ⟨p, t1, t2, t3, j, k, hs, ns, ts, rfl, _⟩ := h
    rfl
  · obtain ⟨p, t1, t2, t3, j, k, hs, ns, ts, rfl, p0, hh, h2, h3, l2, l3, r2, r3, tg, q⟩ := h
    have hl := hh.len
    refine ⟨_, (pss_one (ps_ret (Gx.pe_tupGx (k := 0) (own := [("side", 4), ("mine", 5), ("its", 6)]) (g := (gTup K 3 (gCons (gName 4) (gCons (gName 5) (gCons (gName 6) gNil))))) rfl hr sc_row_of_sides.nd (by rfl) T.b_tuple B.t_row_of_sides rfl (Z3.pi_zip3 (by rfl) T.b_zip (pa_cons (pv 1) (pa_cons (pv 2) (pa_cons (pv 3) pa_nil)))) (blkOk_by (N := N_row_of_sides) (sc := defScope s_row_of_sides) (by decide +kernel)) rfl rfl (fun _ _ _ _ _ _ => (pg_tup rfl (pgs_cons (pg_name (i := 4) sc_row_of_sides.nd rfl (.inl rfl) (.inr rfl)) (pgs_cons (pg_name (i := 5) sc_row_of_sides.nd rfl (.inl rfl) (.inr rfl)) (pgs_cons (pg_name (i := 6) sc_row_of_sides.nd rfl (.inl rfl) (.inr rfl)) pgs_nil))))) (fun _ _ _ _ _ _ hq => (pe_ifExp (pt_cmpR op_eq (pv 4) pe_int (nomark _)) (pe_tup (pa_cons (pv 5) (pa_cons (pv 6) pa_nil))) (pe_tup (pa_cons (pe_op op_mod (pe_un un_neg (pv 6)) (pv 0)) (pa_cons (pv 5) pa_nil))))) (fun _ => rfl)))), ?_⟩
    refine ⟨.ref t1, rfl, .ref t2, rfl, .ref t3, rfl, .t, j, k, t1, t2, t3, _, _, _, rfl, SqT.of hh.at_, h2.sq, h3.sq, tg, fun H2 tb => ?_⟩
    have s2 := Sm.tabbed tg tb
    refine gx_it (σ := [some (.int p), some (.ref t1), some (.ref t2), some (.ref t3), none, none, none]) (vs := [4, 5, 6]) (Z3.walk3 (xs := hs.map V.int) (ys := ns.map V.int) (zs := ts.map V.int) (by rw [List.length_map, List.length_map]; omega) (by rw [List.length_map, List.length_map]; omega)) (fun i zs H' => Sm H H' ∧ Prs H' zs ((rosP p hs ns ts).take i)) ⟨s2, by simpa using Prs.nil⟩ (fun i zs H' _ h => ⟨SqT.of (h.1.tup hh.at_), (h2.sm h.1).sq, (h3.sm h.1).sq⟩) ?_ ?_
    · rintro i x zs H3 H4 hi ⟨s3, hz⟩ ⟨T1, x1, y1, z1, rfl, hT, rfl, hx, hy, hzz⟩
      rw [List.length_map] at hi
      rw [List.getElem?_map, vec_get hi] at hx
      cases hx
      rw [List.getElem?_map, vec_get (by omega)] at hy
      cases hy
      rw [List.getElem?_map, vec_get (by omega)] at hzz
      cases hzz
      have s4 := s3.trans (.new (o := .tup [.int (vec hs i), .int (vec ns i), .int (vec ts i)]) hT)
      have hzl := hz.len
      rw [List.length_take, ros_len] at hzl
      refine ⟨T1, [.int (vec hs i), .int (vec ns i), .int (vec ts i)], rfl, SqT.of upd_same, rfl, .int (vec hs i), [.int (vec ns i), .int (vec ts i)], rfl, .int (vec ns i), [.int (vec ts i)], rfl, .int (vec ts i), [], rfl, rfl, ?_⟩
      dsimp only [wipe, List.set]
      have eg := ros_get (p := p) (ns := ns) (ts := ts) hi
      refine ⟨rfl, .int (vec hs i), rfl, rfl, _, rfl, ite2 (fun e => ?_) (fun e => ?_)⟩
      · have e' : vec hs i = 0 := V.int.inj (of_decide_eq_true e)
        rw [if_pos e'] at eg
        refine ⟨.int (vec ns i), rfl, .int (vec ts i), rfl, (by show 2 ≤ sizeLine; decide), fun t ht => ⟨small (by omega), s4.trans (.new ht), ?_⟩⟩
        rw [take_snoc eg]
        exact ((hz.sm (.new hT)).sm (.new ht)).snoc (u := (vec ns i, vec ts i)) ⟨t, rfl, upd_same⟩
      · have e' : ¬ vec hs i = 0 := fun z => e (decide_eq_true (congrArg V.int z))
        rw [if_neg e'] at eg
        refine ⟨.int (vec ts i), rfl, vec ts i, rfl, .int p, rfl, _, p, rfl, rfl, p0, .int (vec ns i), rfl, (by show 2 ≤ sizeLine; decide), fun t ht => ⟨small (by omega), s4.trans (.new ht), ?_⟩⟩
        rw [take_snoc eg]
        exact ((hz.sm (.new hT)).sm (.new ht)).snoc (u := (-vec ts i % p, vec ns i)) ⟨t, rfl, upd_same⟩
    · rintro zs H3 ⟨s3, hz⟩ t ht
      rw [List.length_map, List.take_of_length_le (by rw [ros_len]; exact Nat.le_refl _)] at hz
      exact q t _ (s3.trans (.new ht)) ⟨⟨zs, upd_same, hz.sm (.new ht)⟩, ros_in p0 r2 r3, ros_len⟩
/-! the table of a thing by a hold that stands -/
theorem cut_fromI {us : List Int} {n : Nat} (h : n ≤ us.length) : cutV (us.map V.int) (some (n : Nat)) none = (us.drop n).map V.int := by
  unfold cutV
  rw [HT.sIx_nat, HT.sIx_none, List.length_map, Nat.min_eq_left h, ← List.map_drop, List.take_of_length_le (by rw [List.length_map, List.length_drop]; exact Nat.le_refl _)]
theorem Trs.snoc {H : Hp} {ys : List V} {gs : List (List Int)} {t : Addr} {g : List Int} (h : Trs H ys gs) (e : H t = some (.tup (g.map V.int))) : Trs H (ys ++ [.ref t]) (gs ++ [g]) := by
  refine ⟨by rw [List.length_append, List.length_append, h.len]; rfl, fun {i y} ey => ?_⟩
  rcases Nat.lt_or_ge i ys.length with l | l
  · rw [List.getElem?_append_left l] at ey
    obtain ⟨c, r, h1, h2, h3⟩ := h.get ey
    exact ⟨c, r, h1, by rw [List.getElem?_append_left (by rw [← h.len]; exact l)]; exact h2, h3⟩
  · rw [List.getElem?_append_right l] at ey
    have l2 : i - ys.length = 0 := by
      rcases Nat.eq_zero_or_pos (i - ys.length) with z | z
      · exact z
      · rw [List.getElem?_eq_none (by show 1 ≤ _; omega)] at ey
        cases ey
    rw [l2] at ey
    cases ey
    exact ⟨t, g, rfl, by rw [List.getElem?_append_right (by rw [← h.len]; exact l), ← h.len, l2]; rfl, e⟩
def spTabOf (P1 : Addr) : Sp := fun vs H Q _ => ∃ (p : Int) (t1 a : Addr) (hs : List Int) (gs : List (List Int)) (k : Zm.Kd) (xs : List V) (rs : List Row), vs = [.int p, .ref t1, .ref a] ∧ p ∈ ([2, 3, 5, 7, 11, 13] : List Int) ∧ HdAt H t1 hs ∧ At k H a xs ∧ Rws p hs.length H xs rs ∧ xs.length ≤ 200 ∧ gs.length = hs.length ∧ (∀ g ∈ gs, g.length = hs.length ∧ Rg p g) ∧ Span p rs (Lin.unitsP p hs gs) ∧ GxR.TabG H P1 ∧
  ∀ t ys H', Sm H H' → H' t = some (.tup ys) → Trs H' ys gs → Q (.ref t) H'
set_option maxHeartbeats 1000000 in
theorem ok_table_of (T : Tx K mg A) (B : Tb K mg base A C) : FnOk P w K mg base CX0 7 A.f_table_of A.d_table_of ["p", "hold", "rows"] (spTabOf C.p_table_of) := by
  have G_side_leads : FnOk P w K mg base CX0 4 A.f_side_leads A.d_side_leads ["p", "hold", "rows"] spSLeads := ok_side_leads T
  refine B.k_table_of.ok sc_table_of (fun vs H Q E h => ?_) (fun A outer s H vs Q E hr h => ?_)
  · obtain ⟨p, t1, a, hs, gs, k, xs, rs, rfl, _⟩ := h
    rfl
  · obtain ⟨p, t1, a, hs, gs, k, xs, rs, rfl, hp, hh, ha, hrs, hxl, gl, gok, sp, tg, q⟩ := h
    have pall : ∀ p ∈ ([2, 3, 5, 7, 11, 13] : List Int), 2 ≤ p ∧ p ≤ 13 := by decide
    obtain ⟨p2, p13⟩ := pall p hp
    have p1 : 1 < p := by omega
    have hl := hh.len
    refine ⟨_, (pss_cons (ps_set (i := 3) sc_table_of.nd rfl (.inr rfl) (pe_callB call_len_seq (by rfl) T.b_len PySem.boot_len (pa_cons (pv 1) pa_nil)))
        (pss_cons (ps_set (i := 4) sc_table_of.nd rfl (.inr rfl) (pe_call G_side_leads (hr.mono (by decide)) (by rfl) T.d_side_leads.g T.d_side_leads.F.kp T.d_side_leads.b .nil pass0 (pa_cons (pv 0) (pa_cons (pv 1) (pa_cons (pv 2) pa_nil)))))
        (pss_cons (ps_if (pt_val (pe_callB (cr_any rfl) (by rfl) T.b_any PyProof.Rows.boot_any (pa_cons (pe_lock (pe_lc (own := [("place", 5)]) rfl sc_table_of.nd (pi_keys (pv 4)) (blkOk_by (N := N_table_of) (sc := defScope s_table_of) (by decide +kernel)) (fun _ _ _ _ _ => (pg_name (i := 5) sc_table_of.nd rfl (.inl rfl))) (fun _ _ _ _ _ => pts_nil) (fun _ _ _ _ _ => (pe_cmpR op_ge (pv 5) (pv 3) (nomark _))))) pa_nil)))
        (pss_one (ps_ret pe_non))
        pss_nil)
        (pss_one (ps_ret (Gx.pe_tupGx (k := 1) (own := [("post", 6)]) (g := (gName 6)) rfl hr sc_table_of.nd (by rfl) T.b_tuple B.t_table_of rfl (pi_range1 (by rfl) T.b_range (pa_cons (pv 3) pa_nil)) (blkOk_by (N := N_table_of) (sc := defScope s_table_of) (by decide +kernel)) rfl rfl (fun _ _ _ _ _ _ => (pg_name (i := 6) sc_table_of.nd rfl (.inl rfl) (.inr rfl))) (fun _ _ _ _ _ _ hq => (pe_callTy (show CallR _ _ (rTupOf K) from call_tuple_of) (by rfl) T.b_tuple PyProof.Rows.boot_tuple (pa_cons (pe_slice (show SlR _ (rSlL K) from sl_list) (pe_dget (hu_of (hq.deeper _)) (pv 4) (pv 6) (fun _ _ => rfl)) (po_some (pv 3)) po_none) pa_nil))) (fun _ => rfl))))))), ?_⟩
    refine ⟨.ref t1, rfl, t1, _, rfl, .inr (SqT.of hh.at_), ?_⟩
    rw [List.length_map]
    refine ⟨.int p, rfl, .ref t1, rfl, .ref a, rfl, p, t1, a, hs, k, xs, rs, rfl, hp, hh, ha, hrs, hxl, fun d kvs L H1 s1 ed kv pl up => ?_⟩
    have eL := Lin.lead_table p1 gl gok pl up (Lin.span_sd (fun r hr => (hrs.fit r hr).2) (fun r hr => (Lin.units_fit p1 r hr).2) sp)
    have Ll : L.length = hs.length := by
      rw [eL, List.length_zip, List.length_map, List.length_range, Nat.min_self]
    have Lg : ∀ {i : Nat}, i < hs.length → L[i]? = some (i, Lin.unitL hs.length i ++ gs.getD i []) := fun {i} hi => by
      rw [eL]
      unfold List.zip
      rw [List.getElem?_zipWith, List.getElem?_range hi, List.getElem?_map, List.getElem?_range hi]
      rfl
    have hn := kv.len
    refine ⟨d, .dK kvs, ed, trivial, fun od => ⟨.ref d, rfl, d, od, rfl, .inl ⟨kvs, upd_same, fun D hD => ?_⟩⟩⟩
    have kv0 := kv.lock (o := .frz od (.dK kvs)) ed
    have nD : D ≠ d := fun z => by
      rw [z, upd_same] at hD
      cases hD
    refine lc_it walk_keys (fun i H' => Sm (upd H1 d (.frz od (.dK kvs))) H' ∧ H' d = some (.frz od (.dK kvs)) ∧ H' D = some (.lst ((List.replicate i false).map V.bl))) ⟨.new hD, by rw [upd_ne nD.symm]; exact upd_same, upd_same⟩ (fun i H' _ h => h.2.1) ?_ ?_
    · rintro i x H2 H3 hi ⟨s2, e2, eD⟩ ⟨rfl, key, v, ek, rfl⟩
      have hi2 : i < hs.length := by omega
      obtain ⟨b, eb, fb⟩ := (kv0.sm s2).get (Lg hi2)
      rw [ek] at eb
      cases eb
      refine ⟨rfl, .int (i : Nat), rfl, .int (hs.length : Nat), rfl, _, _, rfl, rfl, _, eD, ?_, s2.put hD, ?_, ?_⟩
      · rw [List.length_map, List.length_replicate]
        exact small (by omega)
      · rw [upd_ne nD.symm]
        exact e2
      · rw [upd_same, List.replicate_succ', List.map_append]
        have e : decide (((hs.length : Nat) : Int) ≤ (i : Nat)) = false := decide_eq_false (by omega)
        show some (HO.lst (_ ++ [V.bl (decide (((hs.length : Nat) : Int) ≤ (i : Nat)))])) = _
        rw [e]
        rfl
    · rintro H2 ⟨s2, e2, eD⟩
      have s3 : Sm H1 (upd H2 d (.dK kvs)) := s2.unlock ed
      have eD3 : upd H2 d (.dK kvs) D = _ := (upd_ne nD).trans eD
      have kv3 := kv.sm s3
      refine ⟨e2, D, _, rfl, SqL.of eD3, _, rfl, ite2 (fun z => ?_) (fun _ => ?_)⟩
      · exfalso
        rw [List.any_eq_true] at z
        obtain ⟨b, h1, h2⟩ := z
        rw [List.eq_of_mem_replicate h1] at h2
        cases h2
      · refine ⟨.int (hs.length : Nat), rfl, _, rfl, by omega, by omega, s3.tb _ (s1.tb _ tg), fun H4 tb => ?_⟩
        have s4 := Sm.tabbed (s3.tb _ (s1.tb _ tg)) tb
        have nP : d ≠ C.p_table_of := fun z => by
          obtain ⟨ps, e, _⟩ := s3.tb _ (s1.tb _ tg)
          rw [← z, upd_same] at e
          cases e
        have ed4 : H4 d = some (.dK kvs) := (tb.2 d nP).trans upd_same
        refine gx_it walk_range (fun i zs H' => Sm H4 H' ∧ H' d = some (.dK kvs) ∧ Trs H' zs (gs.take i)) ⟨.refl _, ed4, rfl, fun e => by simp at e⟩ (fun i zs H' _ h => trivial) ?_ ?_
        · rintro i x zs H5 H6 hi ⟨s5, e5, tr⟩ ⟨rfl, rfl⟩
          rw [Int.toNat_natCast] at hi
          have kv5 := (kv3.sm s4).sm s5
          obtain ⟨c, ec, fc⟩ := kv5.val pl.nd (List.mem_of_getElem? (Lg hi))
          have gi : gs[i]? = some (gs.getD i []) := by
            rw [List.getD_eq_getElem?_getD, List.getElem?_eq_getElem (by omega)]
            rfl
          have cu := cut_fromI (us := Lin.unitL hs.length i ++ gs.getD i []) (n := hs.length) (by rw [List.length_append, Lin.unit_len]; omega)
          rw [List.drop_left' Lin.unit_len] at cu
          have zl := tr.len
          rw [List.length_take] at zl
          refine ⟨rfl, .ref d, rfl, .int (0 + (i : Nat)), rfl, d, .ref c, rfl, .inl ⟨kvs, Sum.inl (i : Nat), .inl e5, by rw [Int.zero_add]; rfl, ec.symm⟩, .int (hs.length : Nat), rfl, _, rfl, c, _, rfl, SqL.of fc, fun t1 h1 => ?_⟩
          refine ⟨t1, _, rfl, .inl ⟨SqL.of upd_same, fun t2 h2 => ⟨small (by omega), (s5.trans (.new h1)).trans (.new h2), same_upd h2 _ _ (same_upd h1 _ _ e5), ?_⟩⟩⟩
          rw [take_snoc gi]
          refine Trs.snoc ((tr.same (same_upd h1)).same (same_upd h2)) ?_
          rw [upd_same, ← cu]
        · rintro zs H5 ⟨s5, e5, tr⟩ t ht
          rw [Int.toNat_natCast, List.take_of_length_le (by omega)] at tr
          exact q t zs _ ((((s1.trans s3).trans s4).trans s5).trans (.new ht)) upd_same (tr.same (same_upd ht))
-- CUT
/-! the rows of a table -/
def spRbt (P1 : Addr) : Sp := fun vs H Q _ => ∃ (p : Int) (t1 t2 : Addr) (hs : List Int) (gs : List (List Int)) (ys : List V), vs = [.int p, .ref t1, .ref t2] ∧ 1 < p ∧ p ≤ 13 ∧ HdAt H t1 hs ∧ H t2 = some (.tup ys) ∧ Trs H ys gs ∧ gs.length = hs.length ∧ (∀ g ∈ gs, g.length = hs.length ∧ Rg p g) ∧ GxR.TabG H P1 ∧
  ∀ b xs H', Sm H H' → H' b = some (.lst xs) → Rws p hs.length H' xs (Lin.unitsP p hs gs) → Q (.ref b) H'
theorem Trs.sm {H H' : Hp} {ys : List V} {rs : List (List Int)} (h : Trs H ys rs) (s : Sm H H') : Trs H' ys rs := ⟨h.len, fun e => let ⟨a, r, h1, h2, h3⟩ := h.get e; ⟨a, r, h1, h2, s.tup h3⟩⟩
set_option maxHeartbeats 1000000 in
theorem ok_rows_by_table (T : Tx K mg A) (B : Tb K mg base A C) : FnOk P w K mg base CX0 7 A.f_rows_by_table A.d_rows_by_table ["p", "hold", "table"] (spRbt C.p_row_of_sides) := by
  have G_row_of_sides : FnOk P w K mg base CX0 6 A.f_row_of_sides A.d_row_of_sides ["p", "hold", "held", "told"] (spRos C.p_row_of_sides) := ok_row_of_sides T B
  refine T.d_rows_by_table.F.ok sc_rows_by_table (fun vs H Q E h => ?_) (fun cdv A outer s H vs Q E hr h => ?_)
  · obtain ⟨p, t1, t2, hs, gs, ys, rfl, _⟩ := h
    rfl
  · obtain ⟨p, t1, t2, hs, gs, ys, rfl, p1, p13, hh, ht, tr, gl, gok, tg, q⟩ := h
    have hl := hh.len
    refine ⟨_, (pss_cons (ps_set (i := 3) sc_rows_by_table.nd rfl (.inr rfl) (pe_callB call_len_seq (by rfl) T.b_len PySem.boot_len (pa_cons (pv 1) pa_nil)))
        (pss_cons (ps_setLc (i := 4) (own := [("post", 5)]) rfl sc_rows_by_table.nd rfl rfl (sw_true rfl rfl rfl (by decide +kernel)) (pi_range1 (by rfl) T.b_range (pa_cons (pv 3) pa_nil)) (blkOk_by (N := N_rows_by_table) (sc := defScope s_rows_by_table) (by decide +kernel)) (fun _ _ _ _ _ => (pg_name (i := 5) sc_rows_by_table.nd rfl (.inr rfl))) (fun _ _ _ _ _ => pts_nil) (fun _ _ _ _ _ => (pe_lc (own := [("other", 6)]) rfl sc_rows_by_table.nd (pi_range1 (by rfl) T.b_range (pa_cons (pv 3) pa_nil)) (blkOk_by (N := N_rows_by_table) (by kernel_rfl)) (fun _ _ _ _ _ => (pg_name (i := 6) sc_rows_by_table.nd rfl (.inl rfl))) (fun _ _ _ _ _ => pts_nil) (fun _ _ _ _ _ => (pe_ifExp (pt_cmpR op_eq (pv 6) (pv 5) (nomark _)) pe_int pe_int)))))
        (pss_one (ps_ret (pe_lc (own := [("held", 7), ("told", 8)]) (g := (gTup K 2 (gCons (gName 7) (gCons (gName 8) gNil)))) rfl sc_rows_by_table.nd (Zm.pi_zipK (by rfl) T.b_zip (pa_cons (pv 4) (pa_cons (pv 2) pa_nil))) (blkOk_by (N := N_rows_by_table) (sc := defScope s_rows_by_table) (by decide +kernel)) (fun _ _ _ _ _ => (pg_tup rfl (pgs_cons (pg_name (i := 7) sc_rows_by_table.nd rfl (.inl rfl)) (pgs_cons (pg_name (i := 8) sc_rows_by_table.nd rfl (.inl rfl)) pgs_nil)))) (fun _ _ _ _ _ => pts_nil) (fun _ _ _ _ _ => (pe_call G_row_of_sides hr (by rfl) T.d_row_of_sides.g T.d_row_of_sides.F.kp T.d_row_of_sides.b .nil pass0 (pa_cons (pv 0) (pa_cons (pv 1) (pa_cons (pv 7) (pa_cons (pv 8) pa_nil))))))))))), ?_⟩
    refine ⟨.ref t1, rfl, t1, _, rfl, .inr (SqT.of hh.at_), ?_⟩
    rw [List.length_map]
    refine ⟨.int (hs.length : Nat), rfl, (hs.length : Nat), rfl, by omega, by omega, fun D hD => lc_range (fun i H' => Same H H' ∧ ∃ zs, H' D = some (.lst zs) ∧ V.ref D ∉ zs ∧ Fls .l H' zs ((List.range i).map (Lin.unitL hs.length))) ⟨same_upd hD, [], upd_same, by simp, by simpa using Fls.nil⟩ ?_ ?_⟩
    · rintro i H1 hi ⟨s1, zs, eD, nD, fz⟩
      rw [Int.toNat_natCast] at hi
      refine ⟨rfl, .int (hs.length : Nat), rfl, (hs.length : Nat), rfl, by omega, by omega, fun D2 hD2 => lc_range (fun j H' => Same H1 H' ∧ H' D2 = some (.lst (((List.range j).map fun j => if j = i then (1 : Int) else 0).map V.int))) ⟨same_upd hD2, upd_same⟩ ?_ ?_⟩
      · rintro j H2 hj ⟨s2, e2⟩
        rw [Int.toNat_natCast] at hj
        have lz : ((((List.range j).map fun j => if j = i then (1 : Int) else 0)).map V.int).length < sizeLine := by
          rw [List.length_map, List.length_map, List.length_range]
          exact small (by omega)
        refine ⟨rfl, .int (0 + (j : Nat)), rfl, .int (0 + (i : Nat)), rfl, rfl, _, rfl, ite2 (fun e => ?_) (fun e => ?_)⟩
        · have e' : j = i := by
            have := V.int.inj (of_decide_eq_true e)
            omega
          refine ⟨_, e2, lz, same_put s2 hD2, ?_⟩
          rw [upd_same, List.range_succ, List.map_append, List.map_append]
          show _ = some (HO.lst (_ ++ [V.int (if j = i then 1 else 0)]))
          rw [if_pos e']
        · have e' : ¬ j = i := fun z => e (decide_eq_true (by rw [z]))
          refine ⟨_, e2, lz, same_put s2 hD2, ?_⟩
          rw [upd_same, List.range_succ, List.map_append, List.map_append]
          show _ = some (HO.lst (_ ++ [V.int (if j = i then 1 else 0)]))
          rw [if_neg e']
      · rintro H2 ⟨s2, e2⟩
        rw [Int.toNat_natCast] at e2
        have eD2 := s2 _ _ eD
        have neD : D ≠ D2 := ne_of_none eD hD2
        have nD' : V.ref D ∉ zs ++ [V.ref D2] := fun z => by
          rcases List.mem_append.mp z with z | z
          · exact nD z
          · exact neD (V.ref.inj (List.mem_singleton.mp z))
        have zl := fz.len
        rw [List.length_map, List.length_range] at zl
        refine ⟨zs, eD2, small (by omega), same_put (s1.trans s2) hD, zs ++ [.ref D2], upd_same, nD', ?_⟩
        rw [List.range_succ, List.map_append]
        have z := (fz.sm (.of_same s2)).snoc (f := Lin.unitL hs.length i) e2
        refine ⟨z.len, fun e => ?_⟩
        obtain ⟨c, g, h1, h2, h3⟩ := z.get e
        refine ⟨c, g, h1, h2, ?_⟩
        show L2.upd H2 D _ c = _
        rw [upd_ne]
        · exact h3
        · intro w
          exact nD' (by rw [← w, ← h1]; exact List.mem_of_getElem? e)
    · rintro H1 ⟨s1, zs, eD, nD, fz⟩
      rw [Int.toNat_natCast] at fz
      have zl := fz.len
      rw [List.length_map, List.length_range] at zl
      have yl := tr.len
      refine ⟨.ref D, rfl, .ref t2, rfl, .l, .t, D, t2, _, _, rfl, SqL.of eD, SqT.of (s1 _ _ ht), fun D2 hD2 => lc_it (σ := [some (.int p), some (.ref t1), some (.ref t2), some (.int (hs.length : Nat)), some (.ref D), none, none, none, none]) (vs := [7, 8]) (Zm.walk2 (xs := zs) (ys := ys) (by omega)) (fun i H' => Sm H1 H' ∧ ∃ xs, H' D2 = some (.lst xs) ∧ Rws p hs.length H' xs ((Lin.unitsP p hs gs).take i)) ⟨.new hD2, [], upd_same, by simpa using Rws.nil⟩ (fun i H' _ h => ⟨SqL.of (h.1.lst eD), SqT.of (h.1.tup (s1 _ _ ht))⟩) ?_ ?_⟩
      · rintro i x H2 H3 hi ⟨s2, xs, eD2, rx⟩ ⟨T1, x1, y1, rfl, hT, rfl, hx1, hy1⟩
        obtain ⟨b, us, rfl, eu, fb⟩ := fz.get hx1
        rw [List.getElem?_map, List.getElem?_range (by omega)] at eu
        cases eu
        obtain ⟨c, g, rfl, eg, hc⟩ := tr.get hy1
        obtain ⟨g1, g2⟩ := gok g (List.mem_of_getElem? eg)
        have s3 : Sm H1 (upd H2 T1 (.tup [.ref b, .ref c])) := s2.trans (.new hT)
        have s03 := (Sm.of_same s1).trans s3
        have hb3 : upd H2 T1 (.tup [.ref b, .ref c]) b = some (.lst ((Lin.unitL hs.length i).map V.int)) := s3.lst fb
        have hc3 := s03.tup hc
        refine ⟨T1, [.ref b, .ref c], rfl, SqT.of upd_same, rfl, .ref b, [.ref c], rfl, .ref c, [], rfl, rfl, ?_⟩
        dsimp only [wipe, List.set]
        refine ⟨rfl, .int p, rfl, .ref t1, rfl, .ref b, rfl, .ref c, rfl, p, t1, b, c, .l, .t, hs, Lin.unitL hs.length i, g, rfl, by omega, hh.sm s03, hb3, hc3, Lin.unit_len, g1, Lin.unit_rg p1, g2, s03.tb _ tg, fun t H4 s4 k4 => ?_⟩
        have eD4 := (Sm.trans (.new hT) s4).lst eD2
        have e5 := Lin.told_unit (p := p) (show i < hs.length by omega) eg g1 g2 (by omega)
        have e6 := ros_st (p := p) (hs := hs) (ns := Lin.unitL hs.length i) (gs := gs) (by omega)
        rw [e5] at e6
        rw [e6] at k4
        have xl := rx.len
        rw [List.length_take] at xl
        have e7 : (Lin.unitsP p hs gs)[i]? = some (Lin.stP p hs gs (Lin.unitL hs.length i)) := by
          unfold Lin.unitsP
          rw [List.getElem?_map, List.getElem?_range (by omega)]
          rfl
        refine ⟨xs, eD4, small (by omega), (s3.trans s4).put hD2, xs ++ [.ref t], upd_same, ?_⟩
        rw [take_snoc e7]
        exact (((rx.sm (.new hT)).sm s4).snoc k4).put eD4
      · rintro H2 ⟨s2, xs, eD2, rx⟩
        rw [List.take_of_length_le (by rw [Lin.units_len]; omega)] at rx
        exact q D2 xs H2 ((Sm.of_same s1).trans s2) eD2 rx
-- CUT
/-! table, read -/
def spTable (c P1 : Addr) : Sp := fun vs H Q _ => ∃ (x t1 : Addr) (p : Int) (hs : List Int) (gs : List (List Int)) (ss : List Row), vs = [.ref x, .ref t1] ∧ p ∈ ([2, 3, 5, 7, 11, 13] : List Int) ∧ HdAt H t1 hs ∧ ThAt c H x p hs.length ss ∧ ss.length ≤ 200 ∧ gs.length = hs.length ∧ (∀ g ∈ gs, g.length = hs.length ∧ Rg p g) ∧ Span p ss (Lin.unitsP p hs gs) ∧ GxR.TabG H P1 ∧
  ∀ t ys H', Sm H H' → H' t = some (.tup ys) → Trs H' ys gs → Q (.ref t) H'
theorem ok_table (T : Tx K mg A) (B : Tb K mg base A C) : FnOk P w K mg base CX0 10 A.f_table A.d_table ["thing", "hold"] (spTable A.c_Thing C.p_table_of) := by
  have G_Thing_p : FnOk P w K mg base CX0 1 A.f_Thing_p A.d_Thing_p ["self"] (spThP A.c_Thing) := ok_Thing_p T
  have G_Thing_rows : FnOk P w K mg base CX0 1 A.f_Thing_rows A.d_Thing_rows ["self"] (spThR A.c_Thing) := ok_Thing_rows T
  have G_table_of : FnOk P w K mg base CX0 7 A.f_table_of A.d_table_of ["p", "hold", "rows"] (spTabOf C.p_table_of) := ok_table_of T B
  refine T.d_table.F.ok sc_table (fun vs H Q E h => ?_) (fun cdv A' outer s H vs Q E hr h => ?_)
  · obtain ⟨x, t1, p, hs, gs, ss, rfl, _⟩ := h
    rfl
  · obtain ⟨x, t1, p, hs, gs, ss, rfl, hp, hh, th, sl, gl, gok, sp, tg, q⟩ := h
    refine ⟨_, (pss_cons (ps_set (i := 2) sc_table.nd rfl (.inl rfl) (pe_call G_table_of (hr.mono (by decide)) (by rfl) T.d_table_of.g T.d_table_of.F.kp T.d_table_of.b .nil pass0 (pa_cons (pe_meth0 (pv 0) T.cl_Thing T.d_Thing_p.m G_Thing_p (hr.mono (by decide)) T.d_Thing_p.b .nil pass0) (pa_cons (pv 1) (pa_cons (pe_meth0 (pv 0) T.cl_Thing T.d_Thing_rows.m G_Thing_rows (hr.mono (by decide)) T.d_Thing_rows.b .nil pass0) pa_nil)))))
        (pss_cons (ps_if (pt_cmpR op_isN (pv 2) pe_non (nomark _))
        (pss_one Cl.ps_never)
        pss_nil)
        (pss_one (ps_ret (pv 2))))), ?_⟩
    obtain ⟨dx, tt, ys, h1, h2, h3⟩ := id th
    have xl := h3.len
    refine ⟨.ref x, rfl, x, dx, _, rfl, h1, th_no (by decide +kernel) (by decide +kernel), x, p, _, ss, rfl, th, .ref t1, rfl, .ref x, rfl, x, dx, _, rfl, h1, th_no (by decide +kernel) (by decide +kernel), x, p, _, ss, rfl, th, fun ta xs hta hxs => ?_⟩
    refine ⟨p, t1, ta, hs, gs, .t, xs, ss, rfl, hp, hh, hta, hxs, by rw [hxs.len]; exact sl, gl, gok, sp, tg, fun t zs H' s1 et tr => ?_⟩
    refine ⟨.ref t, rfl, rfl, _, rfl, ite2 (fun e => ?_) (fun _ => ?_)⟩
    · have := of_decide_eq_true e
      cases this
    · exact ⟨.ref t, rfl, q t zs H' s1 et tr⟩
def spRead (c P1 P2 P3 P4 : Addr) : Sp := fun vs H Q _ => ∃ (x t1 t2 : Addr) (p : Int) (hs : List Int) (gs : List (List Int)) (ss : List Row) (ns : List Int), vs = [.ref x, .ref t1, .ref t2] ∧ p ∈ ([2, 3, 5, 7, 11, 13] : List Int) ∧ HdAt H t1 hs ∧ ThAt c H x p hs.length ss ∧ ss.length ≤ 200 ∧ gs.length = hs.length ∧ (∀ g ∈ gs, g.length = hs.length ∧ Rg p g) ∧ Span p ss (Lin.unitsP p hs gs) ∧ H t2 = some (.tup (ns.map V.int)) ∧ ns.length = hs.length ∧ Rg p ns ∧
  GxR.TabG H P1 ∧ GxR.TabG H P2 ∧ GxR.TabG H P3 ∧ GxR.TabG H P4 ∧ ∀ t H', Sm H H' → Rk p hs.length H' t (Lin.stP p hs gs ns) → Q (.ref t) H'
theorem ok_read (T : Tx K mg A) (B : Tb K mg base A C) : FnOk P w K mg base CX0 11 A.f_read A.d_read ["thing", "hold", "numbers"] (spRead A.c_Thing C.p_table_of C.p_row_of_sides C.p_added C.p_times) := by
  have G_Thing_p : FnOk P w K mg base CX0 1 A.f_Thing_p A.d_Thing_p ["self"] (spThP A.c_Thing) := ok_Thing_p T
  have G_table : FnOk P w K mg base CX0 10 A.f_table A.d_table ["thing", "hold"] (spTable A.c_Thing C.p_table_of) := ok_table T B
  have G_rows_by_table : FnOk P w K mg base CX0 7 A.f_rows_by_table A.d_rows_by_table ["p", "hold", "table"] (spRbt C.p_row_of_sides) := ok_rows_by_table T B
  have G_together : FnOk P w K mg base CX0 7 A.f_together A.d_together ["p", "posts", "numbers", "rows"] (spTog C.p_added C.p_times) := ok_together T B
  refine T.d_read.F.ok sc_read (fun vs H Q E h => ?_) (fun cdv A' outer s H vs Q E hr h => ?_)
  · obtain ⟨x, t1, t2, p, hs, gs, ss, ns, rfl, _⟩ := h
    rfl
  · obtain ⟨x, t1, t2, p, hs, gs, ss, ns, rfl, hp, hh, th, sl, gl, gok, sp, hn, nl, rg, tg1, tg2, tg3, tg4, q⟩ := h
    have pall : ∀ p ∈ ([2, 3, 5, 7, 11, 13] : List Int), 2 ≤ p ∧ p ≤ 13 := by decide
    obtain ⟨p2, p13⟩ := pall p hp
    have hl := hh.len
    obtain ⟨dx, tt, ys, h1, h2, h3⟩ := id th
    refine ⟨_, (pss_cons (ps_set (i := 3) sc_read.nd rfl (.inl rfl) (pe_call G_rows_by_table (hr.mono (by decide)) (by rfl) T.d_rows_by_table.g T.d_rows_by_table.F.kp T.d_rows_by_table.b .nil pass0 (pa_cons (pe_meth0 (pv 0) T.cl_Thing T.d_Thing_p.m G_Thing_p (hr.mono (by decide)) T.d_Thing_p.b .nil pass0) (pa_cons (pv 1) (pa_cons (pe_call G_table hr (by rfl) T.d_table.g T.d_table.F.kp T.d_table.b .nil pass0 (pa_cons (pv 0) (pa_cons (pv 1) pa_nil))) pa_nil)))))
        (pss_one (ps_ret (pe_call G_together (hr.mono (by decide)) (by rfl) T.d_together.g T.d_together.F.kp T.d_together.b .nil pass0 (pa_cons (pe_meth0 (pv 0) T.cl_Thing T.d_Thing_p.m G_Thing_p (hr.mono (by decide)) T.d_Thing_p.b .nil pass0) (pa_cons (pe_callB call_len_seq (by rfl) T.b_len PySem.boot_len (pa_cons (pv 1) pa_nil)) (pa_cons (pv 2) (pa_cons (pv 3) pa_nil)))))))), ?_⟩
    refine ⟨.ref x, rfl, x, dx, _, rfl, h1, th_no (by decide +kernel) (by decide +kernel), x, p, _, ss, rfl, th, .ref t1, rfl, .ref x, rfl, .ref t1, rfl, x, t1, p, hs, gs, ss, rfl, hp, hh, th, sl, gl, gok, sp, tg1, fun t zs H1 s1 et tr => ?_⟩
    refine ⟨p, t1, t, hs, gs, zs, rfl, by omega, p13, hh.sm s1, et, tr, gl, gok, s1.tb _ tg2, fun b xs H2 s2 eb rx => ?_⟩
    have s12 := s1.trans s2
    have th2 := th.sm s12
    obtain ⟨dx2, tt2, ys2, k1, k2, k3⟩ := id th2
    have hh2 := hh.sm s12
    refine ⟨.ref x, rfl, x, dx2, _, rfl, k1, th_no (by decide +kernel) (by decide +kernel), x, p, _, ss, rfl, th2, .ref t1, rfl, t1, _, rfl, .inr (SqT.of hh2.at_), ?_⟩
    rw [List.length_map]
    refine ⟨.ref t2, rfl, .ref b, rfl, p, hs.length, t2, b, .t, .l, ns, xs, _, rfl, by omega, p13, by omega, s12.tup hn, eb, rx, by rw [Lin.units_len]; exact nl, fun n hn => ?_, s12.tb _ tg3, s12.tb _ tg4, fun t5 H5 s5 k5 => q t5 H5 (s12.trans s5) ?_⟩
    · have := rg n hn
      omega
    · have e := Lin.stand_sum (gs := gs) (hs := hs) (show 1 < p by omega) nl rg
      unfold noR at k5
      rw [e] at k5
      exact k5
-- CUT
/-! ### a beat -/
def wv : Option Nat → V
  | none => .non
  | some w => .int w
def pick (hs : List Int) (r : Row) (w : Nat) : Int := if vec hs w = 0 then (r.getD w (0, 0)).2 else (r.getD w (0, 0)).1
def stepO (hs : List Int) (r : Row) (n : Int) : Option Nat → Int
  | none => n
  | some w => pick hs r w
def stepL (hs : List Int) (r : Row) (ws : List (Option Nat)) (ns : List Int) : List Int := List.zipWith (stepO hs r) ns ws
theorem step_len {hs : List Int} {r : Row} {ws : List (Option Nat)} {ns : List Int} (h : ws.length = ns.length) : (stepL hs r ws ns).length = ns.length := by
  unfold stepL
  rw [List.length_zipWith]
  omega
theorem step_get {hs : List Int} {r : Row} {ws : List (Option Nat)} {ns : List Int} {i : Nat} {n : Int} {w : Option Nat} (h1 : ns[i]? = some n) (h2 : ws[i]? = some w) : (stepL hs r ws ns)[i]? = some (stepO hs r n w) := by
  unfold stepL
  rw [List.getElem?_zipWith, h1, h2]
structure WrAt (m : Nat) (H : Hp) (t : Addr) (ws : List (Option Nat)) : Prop where
  at_ : H t = some (.tup (ws.map wv))
  len : ws.length = m
  ok : ∀ w, some w ∈ ws → w < m
theorem WrAt.sm {m : Nat} {H H' : Hp} {t : Addr} {ws : List (Option Nat)} (h : WrAt m H t ws) (s : Sm H H') : WrAt m H' t ws := ⟨s.tup h.at_, h.len, h.ok⟩
theorem pick_rg {p : Int} {hs : List Int} {r : Row} {w : Nat} (h : In p r) (p0 : 0 < p) : 0 ≤ pick hs r w ∧ pick hs r w < p := by
  have k : (0 ≤ (r.getD w (0, 0)).1 ∧ (r.getD w (0, 0)).1 < p) ∧ 0 ≤ (r.getD w (0, 0)).2 ∧ (r.getD w (0, 0)).2 < p := by
    rw [List.getD_eq_getElem?_getD]
    cases e : r[w]? with
    | none => exact ⟨⟨Int.le_refl _, p0⟩, Int.le_refl _, p0⟩
    | some u => exact h u (List.mem_of_getElem? e)
  unfold pick
  split
  · exact k.2
  · exact k.1
theorem step_rg {p : Int} {hs : List Int} {r : Row} {ws : List (Option Nat)} {ns : List Int} (h : In p r) (p0 : 0 < p) (g : Rg p ns) : Rg p (stepL hs r ws ns) := fun u hu => by
  obtain ⟨i, e⟩ := List.mem_iff_getElem?.mp hu
  unfold stepL at e
  rw [List.getElem?_zipWith] at e
  cases e1 : ns[i]? with
  | none => rw [e1] at e; cases e
  | some n =>
    cases e2 : ws[i]? with
    | none => rw [e1, e2] at e; cases e
    | some w =>
      rw [e1, e2] at e
      cases e
      cases w with
      | none => exact g n (List.mem_of_getElem? e1)
      | some w => exact pick_rg h p0
theorem pick_at {H : Hp} {p : Int} {hs : List Int} {r : Row} {t1 t : Addr} {w : Nat} (hh : HdAt H t1 hs) (k : Rk p hs.length H t r) (hw : w < hs.length) : ∃ xs b, H t = some (.tup xs) ∧ xs[w]? = some (.ref b) ∧ H b = some (.tup [.int (r.getD w (0, 0)).1, .int (r.getD w (0, 0)).2]) ∧ (hs.map V.int)[w]? = some (.int (vec hs w)) ∧ atI [V.int (r.getD w (0, 0)).1, V.int (r.getD w (0, 0)).2] (1 - vec hs w) = some (.int (pick hs r w)) := by
  obtain ⟨⟨xs, ex, hx⟩, inr, lr⟩ := k
  have xl := hx.len
  obtain ⟨u, eu, b, eb, hb⟩ := hx.get (List.getElem?_eq_getElem (show w < xs.length by omega))
  have eg : r.getD w (0, 0) = u := by
    rw [List.getD_eq_getElem?_getD, eu]
    rfl
  refine ⟨xs, b, ex, by rw [List.getElem?_eq_getElem (show w < xs.length by omega), eb], by rw [eg]; exact hb, by rw [List.getElem?_map, vec_get hw]; rfl, ?_⟩
  unfold pick
  rcases bit_at hh.bit w with z | z
  · rw [z]
    rfl
  · rw [z]
    rfl
def spStepped (c P1 P2 P3 P4 P5 : Addr) : Sp := fun vs H Q _ => ∃ (x t1 t2 t3 : Addr) (p : Int) (hs : List Int) (gs : List (List Int)) (ss : List Row) (ns : List Int) (ws : List (Option Nat)), vs = [.ref x, .ref t1, .ref t3, .ref t2] ∧ p ∈ ([2, 3, 5, 7, 11, 13] : List Int) ∧ HdAt H t1 hs ∧ ThAt c H x p hs.length ss ∧ ss.length ≤ 200 ∧ gs.length = hs.length ∧ (∀ g ∈ gs, g.length = hs.length ∧ Rg p g) ∧ Span p ss (Lin.unitsP p hs gs) ∧ H t2 = some (.tup (ns.map V.int)) ∧ ns.length = hs.length ∧ Rg p ns ∧ WrAt hs.length H t3 ws ∧
  GxR.TabG H P1 ∧ GxR.TabG H P2 ∧ GxR.TabG H P3 ∧ GxR.TabG H P4 ∧ GxR.TabG H P5 ∧ ∀ t H', Sm H H' → H' t = some (.tup ((stepL hs (Lin.stP p hs gs ns) ws ns).map V.int)) → Q (.ref t) H'
theorem ok_stepped (T : Tx K mg A) (B : Tb K mg base A C) : FnOk P w K mg base CX0 12 A.f_stepped A.d_stepped ["thing", "hold", "wires", "numbers"] (spStepped A.c_Thing C.p_table_of C.p_row_of_sides C.p_added C.p_times C.p_stepped) := by
  have G_read : FnOk P w K mg base CX0 11 A.f_read A.d_read ["thing", "hold", "numbers"] (spRead A.c_Thing C.p_table_of C.p_row_of_sides C.p_added C.p_times) := ok_read T B
  refine B.k_stepped.ok sc_stepped (fun vs H Q E h => ?_) (fun A' outer s H vs Q E hr h => ?_)
  · obtain ⟨x, t1, t2, t3, p, hs, gs, ss, ns, ws, rfl, _⟩ := h
    rfl
  · obtain ⟨x, t1, t2, t3, p, hs, gs, ss, ns, ws, rfl, hp, hh, th, sl, gl, gok, sp, hn, nl, rg, wr, tg1, tg2, tg3, tg4, tg5, q⟩ := h
    have hl := hh.len
    have wl := wr.len
    refine ⟨_, (pss_cons (ps_set (i := 4) sc_stepped.nd rfl (.inr rfl) (pe_call G_read hr (by rfl) T.d_read.g T.d_read.F.kp T.d_read.b .nil pass0 (pa_cons (pv 0) (pa_cons (pv 1) (pa_cons (pv 3) pa_nil)))))
        (pss_one (ps_ret (Gx.pe_tupGx (k := 0) (own := [("mine", 5), ("wire", 6)]) (g := (gTup K 2 (gCons (gName 5) (gCons (gName 6) gNil)))) rfl (hr.mono (by decide)) sc_stepped.nd (by rfl) T.b_tuple B.t_stepped rfl (Zm.pi_zipK (by rfl) T.b_zip (pa_cons (pv 3) (pa_cons (pv 2) pa_nil))) (blkOk_by (N := N_stepped) (sc := defScope s_stepped) (by decide +kernel)) rfl rfl (fun _ _ _ _ _ _ => (pg_tup rfl (pgs_cons (pg_name (i := 5) sc_stepped.nd rfl (.inl rfl) (.inr rfl)) (pgs_cons (pg_name (i := 6) sc_stepped.nd rfl (.inl rfl) (.inr rfl)) pgs_nil)))) (fun _ _ _ _ _ _ hq => (pe_ifExp (pt_cmpR op_isN (pv 6) pe_non (nomark _)) (pv 5) (pe_ix (show IxR _ (rIxT K) from ix_tup) (pe_ix (show IxR _ (rIxT K) from ix_tup) (pv 4) (pv 6) (fun _ _ => rfl)) (pe_op op_sub pe_int (pe_ix (show IxR _ (rIxT K) from ix_tup) (pv 1) (pv 6) (fun _ _ => rfl))) (fun _ _ => rfl)))) (fun _ => rfl))))), ?_⟩
    refine ⟨.ref x, rfl, .ref t1, rfl, .ref t2, rfl, x, t1, t2, p, hs, gs, ss, ns, rfl, hp, hh, th, sl, gl, gok, sp, hn, nl, rg, tg1, tg2, tg3, tg4, fun t H1 s1 k1 => ?_⟩
    refine ⟨.ref t2, rfl, .ref t3, rfl, .t, .t, t2, t3, _, _, rfl, SqT.of (s1.tup hn), SqT.of (s1.tup wr.at_), s1.tb _ tg5, fun H2 tb => ?_⟩
    have s2 := Sm.tabbed (s1.tb _ tg5) tb
    refine gx_it (σ := [some (.ref x), some (.ref t1), some (.ref t3), some (.ref t2), some (.ref t), none, none]) (vs := [5, 6]) (Zm.walk2 (xs := ns.map V.int) (ys := ws.map wv) (by rw [List.length_map, List.length_map]; omega)) (fun i zs H' => Sm H2 H' ∧ zs = ((stepL hs (Lin.stP p hs gs ns) ws ns).take i).map V.int) ⟨.refl _, rfl⟩ (fun i zs H' _ h => ⟨SqT.of (h.1.tup (s2.tup (s1.tup hn))), SqT.of (h.1.tup (s2.tup (s1.tup wr.at_)))⟩) ?_ ?_
    · rintro i x1 zs H3 H4 hi ⟨s3, rfl⟩ ⟨T1, y1, y2, rfl, hT, rfl, hy1, hy2⟩
      rw [List.length_map] at hi
      dsimp only at hy1 hy2
      rw [List.getElem?_map] at hy1 hy2
      obtain ⟨n, en, rfl⟩ := Option.map_eq_some_iff.mp hy1
      obtain ⟨w, ew, rfl⟩ := Option.map_eq_some_iff.mp hy2
      have eg := step_get (hs := hs) (r := Lin.stP p hs gs ns) en ew
      have s4 : Sm H2 (upd H3 T1 (.tup [.int n, wv w])) := s3.trans (.new hT)
      have s14 := (s1.trans s2).trans s4
      have k4 := k1.sm (s2.trans s4)
      have hh4 := hh.sm s14
      have zl : (((stepL hs (Lin.stP p hs gs ns) ws ns).take i).map V.int).length < sizeLine := by
        rw [List.length_map, List.length_take]
        exact small (by omega)
      refine ⟨T1, [.int n, wv w], rfl, SqT.of upd_same, rfl, .int n, [wv w], rfl, wv w, [], rfl, rfl, ?_⟩
      dsimp only [wipe, List.set]
      cases w with
      | none =>
        refine ⟨rfl, wv none, rfl, rfl, _, rfl, ite2 (fun _ => ⟨.int n, rfl, zl, s4, ?_⟩) (fun e => ?_)⟩
        · rw [take_snoc eg, List.map_append]
          rfl
        · exact absurd rfl e
      | some w =>
        obtain ⟨xs, b, j1, j2, j3, j4, j5⟩ := pick_at hh4 k4 (wr.ok w (List.mem_of_getElem? ew))
        refine ⟨rfl, wv (some w), rfl, rfl, _, rfl, ite2 (fun e => ?_) (fun _ => ?_)⟩
        · have z := of_decide_eq_true e
          cases z
        · refine ⟨.ref t, rfl, .int (w : Nat), rfl, t, xs, (w : Nat), .ref b, rfl, rfl, SqT.of j1, atI_nat j2, .ref t1, rfl, .int (w : Nat), rfl, t1, _, (w : Nat), .int (vec hs w), rfl, rfl, SqT.of hh4.at_, atI_nat j4, 1, vec hs w, rfl, rfl, b, _, 1 - vec hs w, .int (pick hs (Lin.stP p hs gs ns) w), rfl, rfl, SqT.of j3, j5, zl, s4, ?_⟩
          rw [take_snoc eg, List.map_append]
          rfl
    · rintro zs H3 ⟨s3, rfl⟩ t5 h5
      refine q t5 _ (((s1.trans s2).trans s3).trans (.new h5)) ?_
      rw [upd_same, List.length_map, List.take_of_length_le]
      rw [step_len (by omega)]
      exact Nat.le_refl _
def spLStep : Sp := fun vs H Q _ => ∃ (p : Int) (t1 t2 t3 t4 : Addr) (hs : List Int) (gs : List (List Int)) (ws : List (Option Nat)) (ns : List Int), vs = [.int p, .ref t1, .ref t2, .ref t3, .ref t4] ∧ 0 < p ∧ p ≤ 13 ∧ HdAt H t1 hs ∧ TbAt p hs.length H t2 gs ∧ WrAt hs.length H t3 ws ∧ H t4 = some (.tup (ns.map V.int)) ∧ ns.length = hs.length ∧ Rg p ns ∧
  ∀ t H', Same H H' → H' t = some (.tup ((stepL hs (Lin.stP p hs gs ns) ws ns).map V.int)) → Q (.ref t) H'
theorem ok__law_step (T : Tx K mg A) : FnOk P w K mg base CX0 2 A.f__law_step A.d__law_step ["_law_p", "_law_sides", "_law_grid", "_law_wires_here", "_law_held"] spLStep := by
  have G__law_stand : FnOk P w K mg base CX0 1 A.f__law_stand A.d__law_stand ["_law_p", "_law_hold_here", "_law_grid", "_law_held"] spStand := ok__law_stand T
  refine T.d__law_step.F.ok sc__law_step (fun vs H Q E h => ?_) (fun cdv A outer s H vs Q E hr h => ?_)
  · obtain ⟨p, t1, t2, t3, t4, hs, gs, ws, ns, rfl, _⟩ := h
    rfl
  · obtain ⟨p, t1, t2, t3, t4, hs, gs, ws, ns, rfl, p0, p13, hh, tb, wr, hn, nl, rg, q⟩ := h
    have hl := hh.len
    have wl := wr.len
    refine ⟨_, (pss_cons (ps_set (i := 5) sc__law_step.nd rfl (.inl rfl) (pe_call G__law_stand hr (by rfl) T.d__law_stand.g T.d__law_stand.F.kp T.d__law_stand.b .nil pass0 (pa_cons (pv 0) (pa_cons (pv 1) (pa_cons (pv 2) (pa_cons (pv 4) pa_nil))))))
        (pss_cons (ps_set (i := 6) sc__law_step.nd rfl (.inl rfl) (pe_lst pa_nil))
        (pss_cons (ps_for PassesOwn.never rfl (pi_range1 (by rfl) T.b_range (pa_cons (pe_callB call_len_seq (by rfl) T.b_len PySem.boot_len (pa_cons (pv 4) pa_nil)) pa_nil)) (pg_name (i := 7) sc__law_step.nd rfl (.inl rfl))
        (pss_cons (ps_set (i := 8) sc__law_step.nd rfl (.inl rfl) (pe_ix ix_tup (pv 4) (pv 7) (fun _ _ => rfl)))
        (pss_cons (ps_if (pt_cmpR op_notN (pe_ix ix_tup (pv 3) (pv 7) (fun _ _ => rfl)) pe_non (nomark _))
        (pss_one (ps_set (i := 8) sc__law_step.nd rfl (.inl rfl) (pe_ix ix_tup (pe_ix ix_tup (pv 5) (pe_ix ix_tup (pv 3) (pv 7) (fun _ _ => rfl)) (fun _ _ => rfl)) (pe_op op_sub pe_int (pe_ix ix_tup (pv 1) (pe_ix ix_tup (pv 3) (pv 7) (fun _ _ => rfl)) (fun _ _ => rfl))) (fun _ _ => rfl))))
        pss_nil)
        (pss_one (ps_expr (pe_bm PySem.F.plainAttrs_list PySem.F.slot_list_append PySem.F.type_list_append mt_append (pv 6) (pa_cons (pv 8) pa_nil)))))))
        (pss_one (ps_ret (pe_callTy call_tuple_of (by rfl) T.b_tuple PyProof.Rows.boot_tuple (pa_cons (pv 6) pa_nil))))))), ?_⟩
    refine ⟨.int p, rfl, .ref t1, rfl, .ref t2, rfl, .ref t4, rfl, p, t1, t2, t4, hs, gs, ns, rfl, p0, p13, hh, tb, hn, nl, rg, fun t H1 s1 k1 => ?_⟩
    refine ⟨Nat.zero_le _, fun F hF => ?_⟩
    have s2 : Same H1 (upd H1 F (.lst [])) := same_upd hF
    have hF0 := s1.free hF
    refine ⟨.ref t4, rfl, t4, _, rfl, .inr (SqT.of (s2 _ _ (s1 _ _ hn))), _, rfl, by omega, by rw [List.length_map]; omega, for_range (fun i σ H' => ∃ v7 v8, σ = [some (.int p), some (.ref t1), some (.ref t2), some (.ref t3), some (.ref t4), some (.ref t), some (.ref F), v7, v8] ∧ Same H1 H' ∧ H' F = some (.lst (((stepL hs (Lin.stP p hs gs ns) ws ns).take i).map V.int))) ⟨_, _, rfl, s2, upd_same⟩ ?_ ?_⟩
    · rintro i σ H2 hi ⟨v7, v8, rfl, s3, eF⟩
      rw [List.length_map, Int.toNat_natCast] at hi
      have i0 : (0 + (i : Nat) : Int) = (i : Nat) := by omega
      rw [i0]
      have s13 := s1.trans s3
      have hh3 := hh.same s13
      have k3 := k1.sm (.of_same s3)
      have en := vec_get hi
      have ew : ws[i]? = some (ws[i]'(by omega)) := List.getElem?_eq_getElem (by omega)
      generalize ws[i]'(by omega) = w at ew
      have eg := step_get (hs := hs) (r := Lin.stP p hs gs ns) en ew
      have zl : (((stepL hs (Lin.stP p hs gs ns) ws ns).take i).map V.int).length < sizeLine := by
        rw [List.length_map, List.length_take]
        exact small (by omega)
      have ewv : (ws.map wv)[i]? = some (wv w) := by rw [List.getElem?_map, ew]; rfl
      refine ⟨.ref t4, rfl, .int (i : Nat), rfl, t4, _, (i : Nat), .int (vec ns i), rfl, rfl, SqT.of (s13 _ _ hn), atI_nat (by rw [List.getElem?_map, en]; rfl), .ref t3, rfl, .int (i : Nat), rfl, t3, _, (i : Nat), wv w, rfl, rfl, SqT.of (s13 _ _ wr.at_), atI_nat ewv, rfl, _, rfl, ite2 (fun e => ?_) (fun e => ?_)⟩
      · cases w with
        | none => exact absurd e (by decide)
        | some w =>
          obtain ⟨xs, b, j1, j2, j3, j4, j5⟩ := pick_at hh3 k3 (wr.ok w (List.mem_of_getElem? ew))
          refine ⟨.ref t, rfl, .ref t3, rfl, .int (i : Nat), rfl, t3, _, (i : Nat), wv (some w), rfl, rfl, SqT.of (s13 _ _ wr.at_), atI_nat ewv, t, xs, (w : Nat), .ref b, rfl, rfl, SqT.of j1, atI_nat j2, .ref t1, rfl, .ref t3, rfl, .int (i : Nat), rfl, t3, _, (i : Nat), wv (some w), rfl, rfl, SqT.of (s13 _ _ wr.at_), atI_nat ewv, t1, _, (w : Nat), .int (vec hs w), rfl, rfl, SqT.of hh3.at_, atI_nat j4, 1, vec hs w, rfl, rfl, b, _, 1 - vec hs w, .int (pick hs (Lin.stP p hs gs ns) w), rfl, rfl, SqT.of j3, j5, ?_⟩
          refine ⟨.ref F, rfl, .inl ⟨rfl, _, SqL.of eF⟩, .int (pick hs (Lin.stP p hs gs ns) w), rfl, F, _, _, rfl, rfl, eF, zl, ?_⟩
          refine ⟨_, _, rfl, same_put s3 hF, ?_⟩
          rw [upd_same, take_snoc eg, List.map_append]
          rfl
      · cases w with
        | some w => exact absurd rfl e
        | none =>
          refine ⟨.ref F, rfl, .inl ⟨rfl, _, SqL.of eF⟩, .int (vec ns i), rfl, F, _, _, rfl, rfl, eF, zl, ?_⟩
          refine ⟨_, _, rfl, same_put s3 hF, ?_⟩
          rw [upd_same, take_snoc eg, List.map_append]
          rfl
    · rintro σ H2 ⟨v7, v8, rfl, s3, eF⟩
      rw [List.length_map, Int.toNat_natCast, List.take_of_length_le (by rw [step_len (by omega)]; exact Nat.le_refl _)] at eF
      refine ⟨.ref F, rfl, F, _, rfl, .inl ⟨SqL.of eF, fun t5 h5 => q t5 _ ((s1.trans s3).trans (same_upd h5)) upd_same⟩⟩
def spWires : Sp := fun vs H Q _ => ∃ (d g c : Addr) (k : Int) (m : Nat), vs = [.ref d, .int m] ∧ Dk d g c k H ∧ k ≤ 900000 ∧ m ≤ 10 ∧
  ∀ (t : Addr) (ws : List (Option Nat)) (H' : Hp), WrAt m H' t ws → Dk d g c (k + 3 * m) H' → Fr d g H H' → Q (.ref t) H'
theorem wv_at {r1 r2 r3 : Int} {m : Nat} (h1 : 0 ≤ r1) (h2 : r1 < m) (h3 : 0 ≤ r2) (h4 : r2 < m) (h5 : 0 ≤ r3) (h6 : r3 < 3) : ∃ w : Option Nat, atI [V.non, V.int r1, V.int r2] r3 = some (wv w) ∧ ∀ v, w = some v → v < m := by
  have e1 : V.int r1 = wv (some r1.toNat) := by
    show _ = V.int (r1.toNat : Nat)
    rw [Int.toNat_of_nonneg h1]
  have e2 : V.int r2 = wv (some r2.toNat) := by
    show _ = V.int (r2.toNat : Nat)
    rw [Int.toNat_of_nonneg h3]
  have c : r3 = 0 ∨ r3 = 1 ∨ r3 = 2 := by omega
  rcases c with z | z | z
  · subst z
    exact ⟨none, rfl, fun v e => by cases e⟩
  · subst z
    exact ⟨some r1.toNat, by rw [← e1]; rfl, fun v e => by cases e; omega⟩
  · subst z
    exact ⟨some r2.toNat, by rw [← e2]; rfl, fun v e => by cases e; omega⟩
theorem ok__law_wires (T : Tx K mg A) : FnOk P w K mg base CX0 2 A.f__law_wires A.d__law_wires ["_law_deck_here", "_law_posts"] spWires := by
  have G__law_next : FnOk P w K mg base CX0 1 A.f__law_next A.d__law_next ["_law_deck_here", "_law_many"] spNext := ok__law_next T
  refine T.d__law_wires.F.ok sc__law_wires (fun vs H Q E h => ?_) (fun cdv A outer s H vs Q E hr h => ?_)
  · obtain ⟨d, g, c, k, m, rfl, _⟩ := h
    rfl
  · obtain ⟨d, g, c, k, m, rfl, D0, hk, hm, q⟩ := h
    refine ⟨_, (pss_cons (ps_set (i := 2) sc__law_wires.nd rfl (.inl rfl) (pe_lst pa_nil))
        (pss_cons (ps_for PassesOwn.never rfl (pi_range1 (by rfl) T.b_range (pa_cons (pv 1) pa_nil)) (pg_name (i := 3) sc__law_wires.nd rfl (.inl rfl))
        (pss_one (ps_expr (pe_bm PySem.F.plainAttrs_list PySem.F.slot_list_append PySem.F.type_list_append mt_append (pv 2) (pa_cons (pe_ix ix_list (pe_lst (pa_cons pe_non (pa_cons (pe_call G__law_next hr (by rfl) T.d__law_next.g T.d__law_next.F.kp T.d__law_next.b .nil pass0 (pa_cons (pv 0) (pa_cons (pv 1) pa_nil))) (pa_cons (pe_call G__law_next hr (by rfl) T.d__law_next.g T.d__law_next.F.kp T.d__law_next.b .nil pass0 (pa_cons (pv 0) (pa_cons (pv 1) pa_nil))) pa_nil)))) (pe_call G__law_next hr (by rfl) T.d__law_next.g T.d__law_next.F.kp T.d__law_next.b .nil pass0 (pa_cons (pv 0) (pa_cons pe_int pa_nil))) (fun _ _ => rfl)) pa_nil)))))
        (pss_one (ps_ret (pe_callTy call_tuple_of (by rfl) T.b_tuple PyProof.Rows.boot_tuple (pa_cons (pv 2) pa_nil)))))), ?_⟩
    refine ⟨Nat.zero_le _, fun F hF => ?_⟩
    have nF := D0.nd hF
    refine ⟨.int m, rfl, m, rfl, by omega, by omega, for_range (fun i σ H' => ∃ v3, σ = [some (.ref d), some (.int m), some (.ref F), v3] ∧ Dk d g c (k + 3 * i) H' ∧ Fr d g H H' ∧ ∃ ws : List (Option Nat), ws.length = i ∧ (∀ w, some w ∈ ws → w < m) ∧ H' F = some (.lst (ws.map wv))) ⟨_, rfl, (D0.same (same_upd hF)).mono (by omega), .new hF, [], rfl, (fun w z => by cases z), upd_same⟩ ?_ ?_⟩
    · rintro i σ H1 hi ⟨v3, rfl, D1, f1, ws, wl, wok, eF⟩
      rw [Int.toNat_natCast] at hi
      refine ⟨.ref F, rfl, .inl ⟨rfl, _, SqL.of eF⟩, .ref d, rfl, .int m, rfl, d, g, c, _, m, rfl, by omega, by omega, D1, by omega, fun r1 H2 a1 b1 D2 f2 => ?_⟩
      refine ⟨.ref d, rfl, .int m, rfl, d, g, c, _, m, rfl, by omega, by omega, D2, by omega, fun r2 H3 a2 b2 D3 f3 => ?_⟩
      refine ⟨(by show 3 ≤ sizeLine; decide), fun l hl => ?_⟩
      have D3' := D3.same (same_upd (o := .lst [.non, .int r1, .int r2]) hl)
      have nl := D3.nd hl
      refine ⟨.ref d, rfl, d, g, c, _, 3, rfl, by decide, by decide, D3', by omega, fun r3 H4 a3 b3 D4 f4 => ?_⟩
      have el := f4 l _ nl.1 nl.2.1 upd_same
      have f14 := ((f2.trans f3).trans (.new hl)).trans f4
      have eF4 := f14 F _ nF.1 nF.2.1 eF
      obtain ⟨w, ew, wlt⟩ := wv_at a1 b1 a2 b2 a3 b3
      refine ⟨l, _, r3, wv w, rfl, rfl, SqL.of el, ew, F, _, _, rfl, rfl, eF4, by rw [List.length_map]; exact small (by omega), _, rfl, (D4.put nF.1 nF.2.1 nF.2.2).mono (by omega), fun b o e1 e2 e => ?_, ws ++ [w], by rw [List.length_append, wl]; rfl, fun v z => ?_, by rw [upd_same, List.map_append]; rfl⟩
      · rw [upd_ne (ne_of_none e hF)]
        exact f14 _ _ e1 e2 (f1 _ _ e1 e2 e)
      · rcases List.mem_append.mp z with z | z
        · exact wok v z
        · exact wlt v (List.mem_singleton.mp z).symm
    · rintro σ H1 ⟨v3, rfl, D1, f1, ws, wl, wok, eF⟩
      rw [Int.toNat_natCast] at wl D1
      exact ⟨.ref F, rfl, F, _, rfl, .inl ⟨SqL.of eF, fun t ht => q t ws _ ⟨upd_same, wl, wok⟩ (D1.same (same_upd ht)) (f1.trans (.new ht))⟩⟩
theorem dq_nums {H : Hp} : ∀ ns : List Int, DqAll H (ns.map V.int) (ns.map PyData.int)
  | [] => .nil
  | n :: ns => .cons (.int n) (dq_nums ns)
theorem numD {p i : Int} (h : 0 ≤ i ∧ i < p) : isNumD p (.int i) = true := by
  show (decide (0 ≤ i) && decide (i < p)) = true
  rw [decide_eq_true h.1, decide_eq_true h.2]
  rfl
theorem gd_ints : ∀ {ns : List Int}, (∀ n ∈ ns, 0 ≤ n ∧ n < 13) → GdAll (6 * ns.length) 0 (ns.map PyData.int)
  | [], _ => .nil
  | n :: ns, h => by
    have a := gd_num (h n (by simp))
    have b := gd_ints (ns := ns) fun x hx => h x (List.mem_cons_of_mem _ hx)
    exact (GdAll.cons a b).mono (by rw [List.length_cons]; omega) (Nat.le_refl _)
/-! the rows of a thing span what its givers span -/
theorem rows_vecs {L : List (Nat × List Int)} : Lin.rowsOf (Lin.vecs L) = Lin.spn (L.map (·.2)) := by
  funext v
  apply propext
  constructor
  · rintro ⟨y, hy, rfl⟩
    obtain ⟨x, hx, rfl⟩ := List.mem_map.mp hy
    exact ⟨x.2, List.mem_map.mpr ⟨x, hx, rfl⟩, rfl⟩
  · rintro ⟨f, hf, rfl⟩
    obtain ⟨x, hx, rfl⟩ := List.mem_map.mp hf
    exact ⟨(x.1, vec x.2), List.mem_map.mpr ⟨x, hx, rfl⟩, rfl⟩
theorem pl_span {p : Int} {n : Nat} {rs ss : List Row} {L : List (Nat × List Int)} (es : ss.map flatR = L.map (·.2)) (pl : PL p n (rs.map flatR) L) : Span p ss rs := fun u => by
  rw [es, ← rows_vecs]
  exact pl.lot u
-- CUT
/-! ### many beats: the mathematics -/
def Gn (p : Int) (m : Nat) (v : List Int) : Prop := v.length = m ∧ Rg p v
theorem told_len {p : Int} {M : List (List Int)} {v : List Int} {m : Nat} : (Lin.toldL p M v m).length = m := by
  unfold Lin.toldL
  rw [List.length_map, List.length_range]
theorem told_gn {p : Int} {M : List (List Int)} {v : List Int} {m : Nat} (p0 : 0 < p) : Gn p m (Lin.toldL p M v m) := by
  refine ⟨told_len, fun u hu => ?_⟩
  unfold Lin.toldL at hu
  obtain ⟨j, _, rfl⟩ := List.mem_map.mp hu
  exact ⟨Int.emod_nonneg _ (by omega), Int.emod_lt_of_pos _ p0⟩
theorem told_vec {p : Int} {M : List (List Int)} {v : List Int} {m j : Nat} (h : j < m) : vec (Lin.toldL p M v m) j = Lin.toldV M (vec v) m j % p := by
  refine Lin.vec_some ?_
  unfold Lin.toldL
  rw [List.getElem?_map, List.getElem?_range h]
  rfl
theorem vec_out {v : List Int} {j : Nat} (h : v.length ≤ j) : vec v j = 0 := by
  show v.getD j 0 = 0
  rw [List.getD_eq_getElem?_getD, List.getElem?_eq_none h]
  rfl
theorem told_cg {p : Int} {M : List (List Int)} {v : List Int} {m j : Nat} (h : j < m) : Lin.Cg p (vec (Lin.toldL p M v m) j) (Lin.toldV M (vec v) m j) := by
  rw [told_vec h]
  exact Lin.Cg.mod _
def mulM (p : Int) (m : Nat) (M : List (List Int)) : List (List Int) := M.map fun r => Lin.toldL p M r m
theorem col_at {M : List (List Int)} {r : List Int} {j k : Nat} (h : M[k]? = some r) : Lin.col M j k = vec r j := by
  unfold Lin.col
  rw [List.getD_eq_getElem?_getD, h]
  rfl
theorem gn_eq {p : Int} {m : Nat} {u v : List Int} (p0 : 0 < p) (hu : Gn p m u) (hv : Gn p m v) (h : ∀ j, j < m → Lin.Cg p (vec u j) (vec v j)) : u = v := by
  refine Lin.list_eq p0 (by rw [hu.1, hv.1]) hu.2 hv.2 fun j => ?_
  by_cases hj : j < m
  · exact h j hj
  · rw [vec_out (by rw [hu.1]; omega), vec_out (by rw [hv.1]; omega)]
    exact Lin.Cg.rfl'
theorem told_mul {p : Int} {m : Nat} {M : List (List Int)} {v : List Int} (p0 : 0 < p) (ml : M.length = m) : Lin.toldL p (mulM p m M) v m = Lin.toldL p M (Lin.toldL p M v m) m := by
  refine gn_eq p0 (told_gn p0) (told_gn p0) fun j hj => ?_
  refine (told_cg hj).trans (Lin.Cg.trans ?_ (told_cg hj).symm)
  unfold Lin.toldV
  have e := Lin.dot_dotM (a := vec v) (b := Lin.col M j) (M := fun i k => Lin.col M k i) (n := m) m
  have k1 : Lin.Cg p (Lin.dot (vec v) (Lin.col (mulM p m M) j) m) (Lin.dot (vec v) (fun i => Lin.dot (fun k => Lin.col M k i) (Lin.col M j) m) m) := by
    refine Lin.dot_cgN m (fun _ _ => Lin.Cg.rfl') fun i hi => ?_
    have ei : M[i]? = some (M[i]'(by omega)) := List.getElem?_eq_getElem (by omega)
    generalize M[i]'(by omega) = r at ei
    have ei2 : (mulM p m M)[i]? = some (Lin.toldL p M r m) := by
      unfold mulM
      rw [List.getElem?_map, ei]
      rfl
    rw [col_at ei2]
    refine (told_cg hj).trans ?_
    unfold Lin.toldV
    have e2 : (fun k => Lin.col M k i) = vec r := funext fun k => col_at ei
    rw [e2]
    exact Lin.Cg.rfl'
  refine k1.trans ?_
  rw [← e]
  refine Lin.dot_cgN m (fun i hi => ?_) fun _ _ => Lin.Cg.rfl'
  exact (told_cg hi).symm
theorem mul_gn {p : Int} {m : Nat} {M : List (List Int)} (p0 : 0 < p) : ∀ r ∈ mulM p m M, Gn p m r := fun r hr => by
  obtain ⟨u, _, rfl⟩ := List.mem_map.mp hr
  exact told_gn p0
/-! one beat is a rule -/
def stepF (p : Int) (hs : List Int) (gs : List (List Int)) (ws : List (Option Nat)) (v : List Int) : List Int := stepL hs (Lin.stP p hs gs v) ws v
def ruleM (p : Int) (hs : List Int) (gs : List (List Int)) (ws : List (Option Nat)) : List (List Int) := (List.range hs.length).map fun k => stepF p hs gs ws (Lin.unitL hs.length k)
theorem step_gn {p : Int} {hs : List Int} {gs : List (List Int)} {ws : List (Option Nat)} {v : List Int} (p0 : 0 < p) (wl : ws.length = hs.length) (h : Gn p hs.length v) : Gn p hs.length (stepF p hs gs ws v) := by
  refine ⟨?_, step_rg (Lin.st_in p0 h.2) p0 h.2⟩
  unfold stepF
  rw [step_len (by rw [wl, h.1]), h.1]
def stepV (hs : List Int) (gs : List (List Int)) (a : Lin.Vc) (j : Nat) : Option Nat → Int
  | none => a j
  | some w => Lin.stV hs gs hs.length a (if vec hs w = 0 then 2 * w + 1 else 2 * w)
theorem step_cg {p : Int} {hs : List Int} {gs : List (List Int)} {ws : List (Option Nat)} {v : List Int} {j : Nat} {w : Option Nat} (vl : v.length = hs.length) (hj : j < hs.length) (ew : ws[j]? = some w) : Lin.Cg p (vec (stepF p hs gs ws v) j) (stepV hs gs (vec v) j w) := by
  have e := step_get (hs := hs) (r := Lin.stP p hs gs v) (vec_get (show j < v.length by omega)) ew
  have e2 : vec (stepF p hs gs ws v) j = _ := Lin.vec_some e
  rw [e2]
  cases w with
  | none => exact Lin.Cg.rfl'
  | some w =>
    have s := Lin.st_vec (p := p) (hs := hs) (gs := gs) (ns := v) (if vec hs w = 0 then 2 * w + 1 else 2 * w)
    obtain ⟨a, b⟩ := Lin.vec_flatP (Lin.stP p hs gs v) w
    show Lin.Cg p (pick hs (Lin.stP p hs gs v) w) (Lin.stV hs gs hs.length (vec v) (if vec hs w = 0 then 2 * w + 1 else 2 * w))
    refine Lin.Cg.trans ?_ s
    unfold pick
    by_cases z : vec hs w = 0
    · rw [if_pos z, if_pos z, b]
      exact Lin.Cg.rfl'
    · rw [if_neg z, if_neg z, a]
      exact Lin.Cg.rfl'
theorem stepV_dot {hs : List Int} {gs : List (List Int)} {a : Lin.Vc} {j : Nat} {w : Option Nat} (hj : j < hs.length) : Lin.dot a (fun k => stepV hs gs (vec (Lin.unitL hs.length k)) j w) hs.length = stepV hs gs a j w := by
  cases w with
  | none =>
    show Lin.dot a (fun k => vec (Lin.unitL hs.length k) j) hs.length = a j
    rw [Lin.dot_ext hs.length (v := a) (x := vec (Lin.unitL hs.length j)) (fun _ _ => rfl) (fun k hk => ?_), Lin.dot_comm, Lin.dot_unit hj]
    rw [Lin.unit_at, Lin.unit_at]
    by_cases q : j = k
    · rw [if_pos ⟨q, hj⟩, if_pos ⟨q.symm, hk⟩]
    · rw [if_neg (fun z => q z.1), if_neg (fun z => q z.1.symm)]
  | some w => exact Lin.st_dot
theorem step_rule {p : Int} {hs : List Int} {gs : List (List Int)} {ws : List (Option Nat)} {v : List Int} (p0 : 0 < p) (wl : ws.length = hs.length) (h : Gn p hs.length v) : Lin.toldL p (ruleM p hs gs ws) v hs.length = stepF p hs gs ws v := by
  refine gn_eq p0 (told_gn p0) (step_gn p0 wl h) fun j hj => ?_
  have ew : ws[j]? = some (ws[j]'(by omega)) := List.getElem?_eq_getElem (by omega)
  generalize ws[j]'(by omega) = w at ew
  refine (told_cg hj).trans (Lin.Cg.trans ?_ (step_cg h.1 hj ew).symm)
  rw [← stepV_dot hj]
  unfold Lin.toldV
  refine Lin.dot_cgN hs.length (fun _ _ => Lin.Cg.rfl') fun k hk => ?_
  have ek : (ruleM p hs gs ws)[k]? = some (stepF p hs gs ws (Lin.unitL hs.length k)) := by
    unfold ruleM
    rw [List.getElem?_map, List.getElem?_range hk]
    rfl
  rw [col_at ek]
  exact step_cg Lin.unit_len hj ew
theorem rule_gn {p : Int} {hs : List Int} {gs : List (List Int)} {ws : List (Option Nat)} (p1 : 1 < p) (wl : ws.length = hs.length) : ∀ r ∈ ruleM p hs gs ws, Gn p hs.length r := fun r hr => by
  obtain ⟨k, _, rfl⟩ := List.mem_map.mp hr
  exact step_gn (by omega) wl ⟨Lin.unit_len, Lin.unit_rg p1⟩
/-! so many times -/
def itr {α : Type} (f : α → α) : Nat → α → α
  | 0, x => x
  | n + 1, x => itr f n (f x)
theorem itr_add {α : Type} {f : α → α} : ∀ (a b : Nat) (x : α), itr f (a + b) x = itr f b (itr f a x)
  | 0, b, x => by rw [Nat.zero_add]; rfl
  | a + 1, b, x => by
    rw [show a + 1 + b = (a + b) + 1 by omega]
    exact itr_add a b (f x)
theorem itr_succ {α : Type} {f : α → α} (n : Nat) (x : α) : itr f (n + 1) x = f (itr f n x) := itr_add n 1 x
theorem itr_gn {p : Int} {m : Nat} {f : List Int → List Int} (h : ∀ v, Gn p m v → Gn p m (f v)) : ∀ (n : Nat) {v : List Int}, Gn p m v → Gn p m (itr f n v)
  | 0, _, g => g
  | n + 1, _, g => itr_gn h n (h _ g)
/-- a rule that stands for e beats -/
structure Ru (p : Int) (m : Nat) (f : List Int → List Int) (e : Nat) (R : List (List Int)) : Prop where
  len : R.length = m
  gn : ∀ r ∈ R, Gn p m r
  is : ∀ v, Gn p m v → Lin.toldL p R v m = itr f e v
theorem Ru.twice {p : Int} {m : Nat} {f : List Int → List Int} {e : Nat} {R : List (List Int)} (h : Ru p m f e R) (p0 : 0 < p) : Ru p m f (e + e) (mulM p m R) := by
  refine ⟨by unfold mulM; rw [List.length_map, h.len], mul_gn p0, fun v g => ?_⟩
  rw [told_mul p0 h.len, h.is v g, itr_add, h.is _ (by rw [← h.is v g]; exact told_gn p0)]
theorem Ru.one {p : Int} {hs : List Int} {gs : List (List Int)} {ws : List (Option Nat)} (p1 : 1 < p) (wl : ws.length = hs.length) : Ru p hs.length (stepF p hs gs ws) 1 (ruleM p hs gs ws) :=
  ⟨by unfold ruleM; rw [List.length_map, List.length_range], rule_gn p1 wl, fun v g => step_rule (by omega) wl g⟩
/-! sums and multiples -/
def mixL (p c : Int) (u v : List Int) : List Int := List.zipWith (fun x y => (c * x + y) % p) u v
theorem mix_gn {p c : Int} {m : Nat} {u v : List Int} (p0 : 0 < p) (hu : u.length = m) (hv : v.length = m) : Gn p m (mixL p c u v) := by
  refine ⟨by unfold mixL; rw [List.length_zipWith]; omega, fun x hx => ?_⟩
  obtain ⟨i, e⟩ := List.mem_iff_getElem?.mp hx
  unfold mixL at e
  rw [List.getElem?_zipWith] at e
  cases e1 : u[i]? with
  | none => rw [e1] at e; cases e
  | some a =>
    cases e2 : v[i]? with
    | none => rw [e1, e2] at e; cases e
    | some b =>
      rw [e1, e2] at e
      cases e
      exact ⟨Int.emod_nonneg _ (by omega), Int.emod_lt_of_pos _ p0⟩
theorem mix_vec {p c : Int} {u v : List Int} {j : Nat} (h1 : j < u.length) (h2 : j < v.length) : vec (mixL p c u v) j = (c * vec u j + vec v j) % p := by
  refine Lin.vec_some ?_
  unfold mixL
  rw [List.getElem?_zipWith, vec_get h1, vec_get h2]
theorem dot_mix : ∀ (n : Nat) (a b w : Lin.Vc) (c : Int), Lin.dot (fun i => c * a i + b i) w n = c * Lin.dot a w n + Lin.dot b w n
  | 0, _, _, _, c => by show (0 : Int) = c * 0 + 0; omega
  | n + 1, a, b, w, c => by
    rw [Lin.dot_last, Lin.dot_last, Lin.dot_last, dot_mix n a b w c]
    grind
theorem told_mix {p c : Int} {m : Nat} {M : List (List Int)} {u v : List Int} (p0 : 0 < p) (hu : u.length = m) (hv : v.length = m) : Lin.toldL p M (mixL p c u v) m = mixL p c (Lin.toldL p M u m) (Lin.toldL p M v m) := by
  refine gn_eq p0 (told_gn p0) (mix_gn p0 told_len told_len) fun j hj => ?_
  rw [mix_vec (by rw [told_len]; exact hj) (by rw [told_len]; exact hj)]
  refine (told_cg hj).trans (Lin.Cg.trans ?_ (Lin.Cg.mod _).symm)
  have k1 : Lin.Cg p (Lin.toldV M (vec (mixL p c u v)) m j) (Lin.dot (fun i => c * vec u i + vec v i) (Lin.col M j) m) := by
    unfold Lin.toldV
    refine Lin.dot_cgN m (fun i hi => ?_) fun _ _ => Lin.Cg.rfl'
    rw [mix_vec (by omega) (by omega)]
    exact Lin.Cg.mod _
  refine k1.trans ?_
  rw [dot_mix]
  exact Lin.Cg.add (Lin.Cg.mul Lin.Cg.rfl' (told_cg hj).symm) (told_cg hj).symm
theorem itr_mix {p c : Int} {m : Nat} {f : List Int → List Int} {R : List (List Int)} (h : Ru p m f 1 R) (p0 : 0 < p) : ∀ (n : Nat) {u v : List Int}, Gn p m u → Gn p m v → itr f n (mixL p c u v) = mixL p c (itr f n u) (itr f n v)
  | 0, _, _, _, _ => rfl
  | n + 1, u, v, hu, hv => by
    have e : ∀ w, Gn p m w → f w = Lin.toldL p R w m := fun w g => (h.is w g).symm
    show itr f n (f (mixL p c u v)) = mixL p c (itr f n (f u)) (itr f n (f v))
    rw [e _ (mix_gn p0 hu.1 hv.1), told_mix p0 hu.1 hv.1, e u hu, e v hv]
    exact itr_mix h p0 n (told_gn p0) (told_gn p0)
-- CUT
/-! ### rules of beats -/
def spUnitsB (P1 : Addr) : Sp := fun vs H Q _ => ∃ (m : Nat), vs = [.int m] ∧ m ≤ 10 ∧ GxR.TabG H P1 ∧ ∀ b xs H', Sm H H' → H' b = some (.lst xs) → Trs H' xs ((List.range m).map (Lin.unitL m)) → Q (.ref b) H'
set_option maxHeartbeats 1000000 in
theorem ok_units (T : Tx K mg A) (B : Tb K mg base A C) : FnOk P w K mg base CX0 6 A.f_units A.d_units ["many"] (spUnitsB C.p_units) := by
  refine B.k_units.ok sc_units (fun vs H Q E h => ?_) (fun A' outer s H vs Q E hr h => ?_)
  · obtain ⟨m, rfl, _⟩ := h
    rfl
  · obtain ⟨m, rfl, m10, tg, q⟩ := h
    refine ⟨_, (pss_one (ps_ret (pe_lc (own := [("post", 1)]) rfl sc_units.nd (pi_range1 (by rfl) T.b_range (pa_cons (pv 0) pa_nil)) (blkOk_by (N := N_units) (sc := defScope s_units) (by decide +kernel)) (fun _ _ _ _ _ => (pg_name (i := 1) sc_units.nd rfl (.inr rfl))) (fun _ _ _ _ _ => pts_nil) (fun _ _ _ _ _ => (Gx.pe_tupGx (k := 0) (own := [("other", 2)]) (g := (gName 2)) rfl hr sc_units.nd (by rfl) T.b_tuple B.t_units rfl (pi_range1 (by rfl) T.b_range (pa_cons (pv 0) pa_nil)) (blkOk_by (N := N_units) (by kernel_rfl)) rfl rfl (fun _ _ _ _ _ _ => (pg_name (i := 2) sc_units.nd rfl (.inl rfl) (.inr rfl))) (fun _ _ _ _ _ _ hq => (pe_ifExp (pt_cmpR op_eq (pv 2) (pv 1) (nomark _)) pe_int pe_int)) (fun _ => rfl)))))), ?_⟩
    refine ⟨.int (m : Nat), rfl, (m : Nat), rfl, by omega, by omega, fun D hD => lc_range (fun i H' => Sm H H' ∧ ∃ zs, H' D = some (.lst zs) ∧ Trs H' zs ((List.range i).map (Lin.unitL m))) ⟨.new hD, [], upd_same, rfl, fun e => by simp at e⟩ ?_ ?_⟩
    · rintro i H1 hi ⟨s1, zs, eD, tr⟩
      rw [Int.toNat_natCast] at hi
      have zl := tr.len
      rw [List.length_map, List.length_range] at zl
      refine ⟨rfl, .int (m : Nat), rfl, (m : Nat), rfl, by omega, by omega, s1.tb _ tg, fun H2 tb => ?_⟩
      have s2 := Sm.tabbed (s1.tb _ tg) tb
      refine gx_it walk_range (fun j ys H' => H' = H2 ∧ ys = ((List.range j).map fun j => if j = i then (1 : Int) else 0).map V.int) ⟨rfl, rfl⟩ (fun _ _ _ _ _ => trivial) ?_ ?_
      · rintro j x ys H3 H4 hj ⟨rfl, rfl⟩ ⟨rfl, rfl⟩
        rw [Int.toNat_natCast] at hj
        have lz : ((((List.range j).map fun j => if j = i then (1 : Int) else 0)).map V.int).length < sizeLine := by
          rw [List.length_map, List.length_map, List.length_range]
          exact small (by omega)
        refine ⟨rfl, .int (0 + (j : Nat)), rfl, .int (0 + (i : Nat)), rfl, rfl, _, rfl, ite2 (fun e => ?_) (fun e => ?_)⟩
        · have e' : j = i := by
            have := V.int.inj (of_decide_eq_true e)
            omega
          refine ⟨lz, rfl, ?_⟩
          rw [List.range_succ, List.map_append, List.map_append]
          show _ = _ ++ [V.int (if j = i then 1 else 0)]
          rw [if_pos e']
        · have e' : ¬ j = i := fun z => e (decide_eq_true (by rw [z]))
          refine ⟨lz, rfl, ?_⟩
          rw [List.range_succ, List.map_append, List.map_append]
          show _ = _ ++ [V.int (if j = i then 1 else 0)]
          rw [if_neg e']
      · rintro ys H3 ⟨rfl, rfl⟩ t ht
        rw [Int.toNat_natCast]
        have eD2 : upd H3 t (.tup (((List.range m).map fun j => if j = i then (1 : Int) else 0).map V.int)) D = some (.lst zs) := same_upd ht _ _ (s2.lst eD)
        refine ⟨zs, eD2, small (by omega), ((s1.trans s2).trans (.new ht)).put hD, zs ++ [.ref t], upd_same, ?_⟩
        have neD : t ≠ D := fun z => by
          rw [z, s2.lst eD] at ht
          cases ht
        rw [List.range_succ, List.map_append]
        refine Trs.snoc (g := Lin.unitL m i) ?_ ?_
        · have tr2 := (tr.sm s2).sm (.new (o := .tup (((List.range m).map fun j => if j = i then (1 : Int) else 0).map V.int)) ht)
          exact ⟨tr2.len, fun e => let ⟨c, r, h1, h2, h3⟩ := tr2.get e; ⟨c, r, h1, h2, by rw [upd_ne (ne_of h3 eD2 (by intro z; cases z))]; exact h3⟩⟩
        · rw [upd_ne neD, upd_same]
          rfl
    · rintro H1 ⟨s1, zs, eD, tr⟩
      rw [Int.toNat_natCast] at tr
      exact q D zs H1 s1 eD tr
def spMoved (P1 : Addr) : Sp := fun vs H Q _ => ∃ (p : Int) (a b : Addr) (k : Zm.Kd) (m : Nat) (xs : List V) (R : List (List Int)) (v : List Int), vs = [.int p, .ref a, .ref b] ∧ 1 < p ∧ p ≤ 13 ∧ m ≤ 10 ∧ At k H a xs ∧ Trs H xs R ∧ R.length = m ∧ (∀ r ∈ R, Gn p m r) ∧ H b = some (.tup (v.map V.int)) ∧ Gn p m v ∧ GxR.TabG H P1 ∧ ∀ t H', Sm H H' → H' t = some (.tup ((Lin.toldL p R v m).map V.int)) → Q (.ref t) H'
set_option maxHeartbeats 1000000 in
theorem ok_moved (T : Tx K mg A) (B : Tb K mg base A C) : FnOk P w K mg base CX0 6 A.f_moved A.d_moved ["p", "rule", "numbers"] (spMoved C.p_moved) := by
  refine B.k_moved.ok sc_moved (fun vs H Q E h => ?_) (fun A' outer s H vs Q E hr h => ?_)
  · obtain ⟨p, a, b, k, m, xs, R, v, rfl, _⟩ := h
    rfl
  · obtain ⟨p, a, b, k, m, xs, R, v, rfl, p1, p13, m10, ha, tr, Rl, Rg, hb, gv, tg, q⟩ := h
    refine ⟨_, (pss_one (ps_ret (Gx.pe_tupGx (k := 0) (own := [("post", 3)]) (g := (gName 3)) rfl hr sc_moved.nd (by rfl) T.b_tuple B.t_moved rfl (pi_range1 (by rfl) T.b_range (pa_cons (pe_callB call_len_seq (by rfl) T.b_len PySem.boot_len (pa_cons (pv 2) pa_nil)) pa_nil)) (blkOk_by (N := N_moved) (sc := defScope s_moved) (by decide +kernel)) rfl rfl (fun _ _ _ _ _ _ => (pg_name (i := 3) sc_moved.nd rfl (.inr rfl) (.inl rfl))) (fun _ _ _ _ _ _ hq => (pe_op op_mod (pe_callB (show CallR _ _ (rSum K) from cr_sum rfl) (by rfl) T.b_sum PyProof.Rows.boot_sum (pa_cons (pe_lc (own := [("number", 4), ("row", 5)]) (g := (gTup K 2 (gCons (gName 4) (gCons (gName 5) gNil)))) rfl sc_moved.nd (show PI _ _ _ (Zm.iZipK K (tCons (tVar 2) (tCons (tVar 1) tNil))) from Zm.pi_zipK (by rfl) T.b_zip (pa_cons (pv 2) (pa_cons (pv 1) pa_nil))) (blkOk_by (N := N_moved) (by kernel_rfl)) (fun _ _ _ _ _ => (pg_tup rfl (pgs_cons (pg_name (i := 4) sc_moved.nd rfl (.inl rfl)) (pgs_cons (pg_name (i := 5) sc_moved.nd rfl (.inl rfl)) pgs_nil)))) (fun _ _ _ _ _ => pts_nil) (fun _ _ _ _ _ => (pe_op op_mul (pv 4) (pe_ix (show IxR _ (rIxT K) from ix_tup) (pv 5) (pv 3) (fun _ _ => rfl))))) pa_nil)) (pv 0))) (fun _ => rfl)))), ?_⟩
    have xl := tr.len
    have vl := gv.1
    have p0 : 0 < p := by omega
    refine ⟨.ref b, rfl, b, _, rfl, .inr (SqT.of hb), _, rfl, by omega, by rw [List.length_map]; omega, tg, fun H2 tb => ?_⟩
    have s2 := Sm.tabbed tg tb
    refine gx_it (σ := [some (.int p), some (.ref a), some (.ref b), none, none, none]) (vs := [3]) walk_range (fun j ys H' => Sm H2 H' ∧ ys = ((Lin.toldL p R v m).take j).map V.int) ⟨.refl _, rfl⟩ (fun _ _ _ _ _ => trivial) ?_ ?_
    · rintro j x ys H3 H4 hj ⟨s3, rfl⟩ ⟨rfl, rfl⟩
      rw [List.length_map, Int.toNat_natCast, vl] at hj
      have j0 : (0 + (j : Nat) : Int) = (j : Nat) := by omega
      dsimp only
      rw [j0]
      have s23 := s2.trans s3
      have hb3 := s23.tup hb
      have ha3 := ha.sm s23
      have tr3 := tr.sm s23
      dsimp only [wipe, List.set]
      refine ⟨rfl, .ref b, rfl, .ref a, rfl, .t, k, b, a, _, _, rfl, SqT.of hb3, ha3.sq, fun D hD => lc_it (σ := [some (.int p), some (.ref a), some (.ref b), some (.int (j : Nat)), none, none]) (vs := [4, 5]) (Zm.walk2 (xs := v.map V.int) (ys := xs) (by rw [List.length_map]; omega)) (fun i H' => Same H4 H' ∧ H' D = some (.lst (((List.range i).map fun k => vec v k * Lin.col R j k).map V.int))) ⟨same_upd hD, upd_same⟩ (fun i H' _ h => ⟨SqT.of (h.1 _ _ hb3), (ha3.sm (.of_same h.1)).sq⟩) ?_ ?_⟩
      · rintro i x H5 H6 hi ⟨s5, eD⟩ ⟨T1, y1, y2, rfl, hT, rfl, hy1, hy2⟩
        dsimp only at hy1 hy2
        rw [List.length_map] at hi
        rw [List.getElem?_map, vec_get hi] at hy1
        cases hy1
        obtain ⟨c, r, rfl, er, hc⟩ := tr3.get hy2
        have gr := Rg r (List.mem_of_getElem? er)
        have s6 : Same H4 (upd H5 T1 (.tup [.int (vec v i), .ref c])) := s5.trans (same_upd hT)
        have eD6 := same_upd (o := .tup [.int (vec v i), .ref c]) hT _ _ eD
        have vi := gv.2.vec p0 i
        refine ⟨T1, [.int (vec v i), .ref c], rfl, SqT.of upd_same, rfl, .int (vec v i), [.ref c], rfl, .ref c, [], rfl, rfl, ?_⟩
        dsimp only [wipe, List.set]
        refine ⟨rfl, .int (vec v i), rfl, .ref c, rfl, .int (j : Nat), rfl, c, _, (j : Nat), .int (vec r j), rfl, rfl, SqT.of (s6 _ _ hc), atI_nat (by rw [List.getElem?_map, vec_get (by rw [gr.1]; exact hj)]; rfl), vec v i, vec r j, rfl, rfl, cmul ⟨vi.1, by omega⟩, _, eD6, ?_, same_put s6 hD, ?_⟩
        · rw [List.length_map, List.length_map, List.length_range]
          exact small (by omega)
        · rw [upd_same, List.range_succ, List.map_append, List.map_append, ← col_at er]
          rfl
      · rintro H5 ⟨s5, eD⟩
        rw [List.length_map, vl] at eD
        have tv : ((List.range m).map fun k => vec v k * Lin.col R j k).sum = Lin.toldV R (vec v) m j := Lin.sum_range _ _ _
        have eg : (Lin.toldL p R v m)[j]? = some (Lin.toldV R (vec v) m j % p) := by
          unfold Lin.toldL
          rw [List.getElem?_map, List.getElem?_range hj]
          rfl
        refine ⟨D, _, rfl, SqL.of eD, .int p, rfl, _, p, rfl, rfl, p0, ?_, s3.trans (.of_same s5), ?_⟩
        · rw [List.length_map, List.length_take]
          exact small (by omega)
        · rw [tv, take_snoc eg, List.map_append]
          rfl
    · rintro ys H3 ⟨s3, rfl⟩ t ht
      rw [List.length_map, Int.toNat_natCast, vl, List.take_of_length_le (by rw [told_len]; exact Nat.le_refl _)]
      exact q t _ ((s2.trans s3).trans (.new ht)) upd_same
def spRule (c P1 P2 P3 P4 P5 P6 : Addr) : Sp := fun vs H Q _ => ∃ (x t1 t3 : Addr) (p : Int) (hs : List Int) (gs : List (List Int)) (ss : List Row) (ws : List (Option Nat)), vs = [.ref x, .ref t1, .ref t3] ∧ p ∈ ([2, 3, 5, 7, 11, 13] : List Int) ∧ HdAt H t1 hs ∧ ThAt c H x p hs.length ss ∧ ss.length ≤ 200 ∧ gs.length = hs.length ∧ (∀ g ∈ gs, g.length = hs.length ∧ Rg p g) ∧ Span p ss (Lin.unitsP p hs gs) ∧ WrAt hs.length H t3 ws ∧
  GxR.TabG H P1 ∧ GxR.TabG H P2 ∧ GxR.TabG H P3 ∧ GxR.TabG H P4 ∧ GxR.TabG H P5 ∧ GxR.TabG H P6 ∧ ∀ b xs H', Sm H H' → H' b = some (.lst xs) → Trs H' xs (ruleM p hs gs ws) → Q (.ref b) H'
theorem ok_rule_of (T : Tx K mg A) (B : Tb K mg base A C) : FnOk P w K mg base CX0 13 A.f_rule_of A.d_rule_of ["thing", "hold", "wires"] (spRule A.c_Thing C.p_table_of C.p_row_of_sides C.p_added C.p_times C.p_stepped C.p_units) := by
  have G_units : FnOk P w K mg base CX0 6 A.f_units A.d_units ["many"] (spUnitsB C.p_units) := ok_units T B
  have G_stepped : FnOk P w K mg base CX0 12 A.f_stepped A.d_stepped ["thing", "hold", "wires", "numbers"] (spStepped A.c_Thing C.p_table_of C.p_row_of_sides C.p_added C.p_times C.p_stepped) := ok_stepped T B
  refine T.d_rule_of.F.ok sc_rule_of (fun vs H Q E h => ?_) (fun cdv A' outer s H vs Q E hr h => ?_)
  · obtain ⟨x, t1, t3, p, hs, gs, ss, ws, rfl, _⟩ := h
    rfl
  · obtain ⟨x, t1, t3, p, hs, gs, ss, ws, rfl, hp, hh, th, sl, gl, gok, sp, wr, tg1, tg2, tg3, tg4, tg5, tg6, q⟩ := h
    have pall : ∀ p ∈ ([2, 3, 5, 7, 11, 13] : List Int), 2 ≤ p ∧ p ≤ 13 := by decide
    obtain ⟨p2, p13⟩ := pall p hp
    have hl := hh.len
    refine ⟨_, (pss_one (ps_ret (pe_lc (own := [("numbers", 3)]) rfl sc_rule_of.nd (pi_list (pe_call G_units (hr.mono (by decide)) (by rfl) T.d_units.g T.d_units.F.kp T.d_units.b .nil pass0 (pa_cons (pe_callB call_len_seq (by rfl) T.b_len PySem.boot_len (pa_cons (pv 1) pa_nil)) pa_nil))) (blkOk_by (N := N_rule_of) (sc := defScope s_rule_of) (by decide +kernel)) (fun _ _ _ _ _ => (pg_name (i := 3) sc_rule_of.nd rfl (.inl rfl))) (fun _ _ _ _ _ => pts_nil) (fun _ _ _ _ _ => (pe_call G_stepped hr (by rfl) T.d_stepped.g T.d_stepped.F.kp T.d_stepped.b .nil pass0 (pa_cons (pv 0) (pa_cons (pv 1) (pa_cons (pv 2) (pa_cons (pv 3) pa_nil))))))))), ?_⟩
    refine ⟨.ref t1, rfl, t1, _, rfl, .inr (SqT.of hh.at_), hs.length, by rw [List.length_map]; rfl, hl, tg6, fun b xs H1 s1 eb tr => ?_⟩
    have xl := tr.len
    rw [List.length_map, List.length_range] at xl
    refine ⟨b, rfl, ⟨_, SqL.of eb⟩, fun D hD => lc_it walk_list (fun i H' => Sm H1 H' ∧ ∃ zs, H' D = some (.lst zs) ∧ Trs H' zs ((ruleM p hs gs ws).take i)) ⟨.new hD, [], upd_same, rfl, fun e => by simp at e⟩ (fun i H' _ h => SqL.of (h.1.lst eb)) ?_ ?_⟩
    · rintro i y H2 H3 hi ⟨s2, zs, eD, tz⟩ ⟨rfl, hy⟩
      obtain ⟨c, u, rfl, eu, hc⟩ := (tr.sm s2).get hy
      rw [List.getElem?_map, List.getElem?_range (by omega)] at eu
      cases eu
      have s12 := s1.trans s2
      refine ⟨rfl, .ref x, rfl, .ref t1, rfl, .ref t3, rfl, .ref c, rfl, x, t1, c, t3, p, hs, gs, ss, Lin.unitL hs.length i, ws, rfl, hp, hh.sm s12, th.sm s12, sl, gl, gok, sp, hc, Lin.unit_len, Lin.unit_rg (by omega), wr.sm s12, s12.tb _ tg1, s12.tb _ tg2, s12.tb _ tg3, s12.tb _ tg4, s12.tb _ tg5, fun t H4 s4 et => ?_⟩
      have eD4 := s4.lst eD
      have zl := tz.len
      rw [List.length_take] at zl
      have ek : (ruleM p hs gs ws)[i]? = some (stepF p hs gs ws (Lin.unitL hs.length i)) := by
        unfold ruleM
        rw [List.getElem?_map, List.getElem?_range (by omega)]
        rfl
      refine ⟨zs, eD4, small (by omega), (s2.trans s4).put hD, zs ++ [.ref t], upd_same, ?_⟩
      rw [take_snoc ek]
      refine Trs.snoc ?_ ?_
      · have tr2 := tz.sm s4
        exact ⟨tr2.len, fun e => let ⟨c, r, h1, h2, h3⟩ := tr2.get e; ⟨c, r, h1, h2, by rw [upd_ne (ne_of h3 eD4 (by intro z; cases z))]; exact h3⟩⟩
      · rw [upd_ne (ne_of et eD4 (by intro z; cases z))]
        exact et
    · rintro H2 ⟨s2, zs, eD, tz⟩
      rw [List.take_of_length_le (by unfold ruleM; rw [List.length_map, List.length_range]; omega)] at tz
      exact q D zs H2 (s1.trans s2) eD tz
theorem itr_step {f : List Int → List Int} {e many : Nat} {v w : List Int} : itr f ((e + e) * (many / 2)) (if many % 2 = 1 then itr f e v else v) = itr f (e * many) v := by
  by_cases h : many % 2 = 1
  · rw [if_pos h, ← itr_add]
    congr 1
    have : many = 2 * (many / 2) + 1 := by omega
    generalize many / 2 = k at this ⊢
    subst this
    rw [Nat.mul_add, Nat.mul_one, Nat.add_comm, Nat.add_mul, Nat.two_mul, Nat.mul_add]
  · rw [if_neg h]
    congr 1
    have : many = 2 * (many / 2) := by omega
    generalize many / 2 = k at this ⊢
    subst this
    rw [Nat.add_mul, Nat.two_mul, Nat.mul_add]
-- CUT
/-! ### the exceptions' __init__ -/
theorem ok_TooMany___init__ (T : Tx K mg A) : FnOk P w K mg base CX0 1 A.f_TooMany___init__ A.d_TooMany___init__ ["self", "bound"] (Xb.spIni K "bound") := by
  refine T.d_TooMany___init__.F.ok sc_TooMany___init__ (fun vs H Q E h => ?_) (fun cdv A' outer s H vs Q E hr h => ?_)
  · obtain ⟨a, C, v, rfl, _⟩ := h
    rfl
  · obtain ⟨a, C, v, rfl, O, no, e, q⟩ := h
    exact ⟨_, (pss_cons (ps_expr (Xb.pe_base T.b_PostError (by rfl) T.g_PostError (pa_cons (pv 0) (pa_cons pe_str pa_nil))))
        (pss_one (ps_ost (pv 0) (pv 1)))), .ref a, rfl, a, C, _, rfl, (by show 1 ≤ 1000; decide), O, e, v, rfl, .ref a, rfl, a, C, rfl, O, no, .inl ⟨e, fun dx n ne => q dx n ne⟩⟩
/-! ### all that a beat asks, together -/
theorem eqv_intsT : ∀ l : List Int, PyData.eqvAll (l.map PyData.int) (l.map PyData.int) = true
  | [] => by simp [PyData.eqvAll]
  | i :: l => by simp [PyData.eqvAll, PyData.eqv, eqv_intsT l]
theorem eqv_tupI (l : List Int) : PyData.eqv (.tuple (l.map PyData.int)) (.tuple (l.map PyData.int)) = true := by
  rw [PyData.eqv]
  exact eqv_intsT l
theorem sh_tupI (gs : List Int) : SeqAt.shaped (.tuple (gs.map PyData.int)) = true := by
  have h1 := dep_ints gs
  have h2 : PyData.depth (.tuple (gs.map PyData.int)) ≤ 64 := by
    simp only [PyData.depth]
    omega
  show (PyData.canLay0 (.tuple (gs.map PyData.int)) && decide (PyData.depth (.tuple (gs.map PyData.int)) ≤ 64)) = true
  rw [Bool.and_eq_true]
  exact ⟨by simp only [PyData.canLay0]; exact lay_ints gs, decide_eq_true h2⟩
structure Tbs (C : Cd) (H : Hp) : Prop where
  t1 : GxR.TabG H C.p_added
  t2 : GxR.TabG H C.p_times
  t3 : GxR.TabG H C.p_row_of
  t4 : GxR.TabG H C.p_row_of_sides
  t5 : GxR.TabG H C.p_table_of
  t6 : GxR.TabG H C.p_stepped
  t7 : GxR.TabG H C.p_units
  t8 : GxR.TabG H C.p_moved
theorem Tbs.sm {C : Cd} {H H' : Hp} (h : Tbs C H) (s : Sm H H') : Tbs C H' := ⟨s.tb _ h.t1, s.tb _ h.t2, s.tb _ h.t3, s.tb _ h.t4, s.tb _ h.t5, s.tb _ h.t6, s.tb _ h.t7, s.tb _ h.t8⟩
theorem Tbs.fs {C : Cd} {d g c : Addr} {k : Int} {H H' : Hp} (h : Tbs C H) (D : Dk d g c k H) (s : Fs d g H H') : Tbs C H' := ⟨s.tab D h.t1, s.tab D h.t2, s.tab D h.t3, s.tab D h.t4, s.tab D h.t5, s.tab D h.t6, s.tab D h.t7, s.tab D h.t8⟩
theorem HdAt.fs {d g c : Addr} {k : Int} {H H' : Hp} {t : Addr} {hs : List Int} (h : HdAt H t hs) (D : Dk d g c k H) (f : Fs d g H H') : HdAt H' t hs := ⟨f.tup D h.at_, h.bit, h.len⟩
theorem TbAt.fs {d g c : Addr} {k : Int} {p : Int} {m : Nat} {H H' : Hp} {t : Addr} {gs : List (List Int)} (h : TbAt p m H t gs) (D : Dk d g c k H) (f : Fs d g H H') : TbAt p m H' t gs := ⟨let ⟨ys, e, r⟩ := h.at_; ⟨ys, f.tup D e, ⟨r.len, fun e => let ⟨a, u, h1, h2, h3⟩ := r.get e; ⟨a, u, h1, h2, f.tup D h3⟩⟩⟩, h.len, h.ok, h.sy⟩
theorem WrAt.fs {d g c : Addr} {k : Int} {m : Nat} {H H' : Hp} {t : Addr} {ws : List (Option Nat)} (h : WrAt m H t ws) (D : Dk d g c k H) (f : Fs d g H H') : WrAt m H' t ws := ⟨f.tup D h.at_, h.len, h.ok⟩
theorem TbAt.sm {p : Int} {m : Nat} {H H' : Hp} {t : Addr} {gs : List (List Int)} (h : TbAt p m H t gs) (s : Sm H H') : TbAt p m H' t gs := ⟨let ⟨ys, e, r⟩ := h.at_; ⟨ys, s.tup e, r.sm s⟩, h.len, h.ok, h.sy⟩
/-- all that a beat asks -/
structure Rig (c0 : Addr) (C : Cd) (H : Hp) (x th tt tw : Addr) (p : Int) (hs : List Int) (gs : List (List Int)) (ss : List Row) (ws : List (Option Nat)) : Prop where
  hd : HdAt H th hs
  tb : TbAt p hs.length H tt gs
  thg : ThAt c0 H x p hs.length ss
  wr : WrAt hs.length H tw ws
  tbs : Tbs C H
  pr : p ∈ ([2, 3, 5, 7, 11, 13] : List Int)
  few : ss.length ≤ 200
  sp : Span p ss (Lin.unitsP p hs gs)
section
variable {c0 : Addr} {C : Cd} {H H' : Hp} {x th tt tw : Addr} {p : Int} {hs : List Int} {gs : List (List Int)} {ss : List Row} {ws : List (Option Nat)}
theorem Rig.sm (R : Rig c0 C H x th tt tw p hs gs ss ws) (s : Sm H H') : Rig c0 C H' x th tt tw p hs gs ss ws := ⟨R.hd.sm s, R.tb.sm s, R.thg.sm s, R.wr.sm s, R.tbs.sm s, R.pr, R.few, R.sp⟩
theorem Rig.fs {d g c : Addr} {k : Int} (R : Rig c0 C H x th tt tw p hs gs ss ws) (D : Dk d g c k H) (s : Fs d g H H') : Rig c0 C H' x th tt tw p hs gs ss ws := ⟨R.hd.fs D s, R.tb.fs D s, R.thg.fs D s, R.wr.fs D s, R.tbs.fs D s, R.pr, R.few, R.sp⟩
theorem Rig.bd (R : Rig c0 C H x th tt tw p hs gs ss ws) : 2 ≤ p ∧ p ≤ 13 := by
  have pall : ∀ p ∈ ([2, 3, 5, 7, 11, 13] : List Int), 2 ≤ p ∧ p ≤ 13 := by decide
  exact pall p R.pr
theorem Rig.gn (R : Rig c0 C H x th tt tw p hs gs ss ws) {n : Nat} {v : List Int} (g : Gn p hs.length v) : Gn p hs.length (itr (stepF p hs gs ws) n v) :=
  itr_gn (fun _ h => step_gn (by have := R.bd; omega) R.wr.len h) n g
theorem gd_gn {v : List Int} (h : Gn p hs.length v) (hl : hs.length ≤ 10) (hp : p ≤ 13) : Gd 6000 1 (.tuple (v.map PyData.int)) :=
  (Gd.tup (gd_ints fun n hn => by have := h.2 n hn; omega)).mono (by rw [h.1]; omega) (by decide)
end
-- CUT
/-! ### rounds: the first beat that has been before -/
def kyI (ns : List Int) : List L2.Key := ns.map Sum.inl
theorem ky_kv {ns : List Int} : (kyI ns).map kV = ns.map V.int := by
  unfold kyI
  rw [List.map_map]
  rfl
theorem ky_inj : ∀ {a b : List Int}, kyI a = kyI b → a = b
  | [], [], _ => rfl
  | [], _ :: _, h => by cases h
  | _ :: _, [], h => by cases h
  | x :: a, y :: b, h => by
    have h' : (Sum.inl x :: kyI a : List L2.Key) = Sum.inl y :: kyI b := h
    injection h' with h1 h2
    rw [Sum.inl.inj h1, ky_inj h2]
def seenK (s : Nat → List Int) (n : Nat) : List (List L2.Key × V) := (List.range n).map fun i => (kyI (s i), V.int (i : Nat))
theorem seen_succ {s : Nat → List Int} {n : Nat} : seenK s (n + 1) = seenK s n ++ [(kyI (s n), V.int (n : Nat))] := by
  unfold seenK
  rw [List.range_succ, List.map_append]
  rfl
theorem seen_len {s : Nat → List Int} {n : Nat} : (seenK s n).length = n := by
  unfold seenK
  rw [List.length_map, List.length_range]
/-- the first n are all different -/
def Dst (s : Nat → List Int) (n : Nat) : Prop := ∀ i j, i < j → j < n → s i ≠ s j
theorem Dst.mono {s : Nat → List Int} {n m : Nat} (h : Dst s n) (l : m ≤ n) : Dst s m := fun i j a b => h i j a (by omega)
theorem seen_off {s : Nat → List Int} {w : List Int} : ∀ {n : Nat}, (∀ i, i < n → s i ≠ w) → valV (seenK s n) (kyI w) = none
  | 0, _ => rfl
  | n + 1, h => by
    rw [seen_succ]
    have e : ∀ l : List (List L2.Key × V), valV l (kyI w) = none → valV (l ++ [(kyI (s n), V.int (n : Nat))]) (kyI w) = none := fun l hl => by
      unfold valV at hl ⊢
      rw [List.find?_append]
      have a : l.find? (fun kv => decide (kv.1 = kyI w)) = none := by simpa using hl
      rw [a]
      have b : ¬ kyI (s n) = kyI w := fun z => h n (by omega) (ky_inj z)
      simp [b]
    exact e _ (seen_off fun i hi => h i (by omega))
theorem seen_at {s : Nat → List Int} {a : Nat} : ∀ {n : Nat}, Dst s n → a < n → valV (seenK s n) (kyI (s a)) = some (.int (a : Nat))
  | 0, _, h => absurd h (Nat.not_lt_zero _)
  | n + 1, d, h => by
    rw [seen_succ]
    by_cases z : a = n
    · subst z
      have o : valV (seenK s a) (kyI (s a)) = none := seen_off fun i hi => d i a hi (by omega)
      rw [valV_snoc _ _ _ _ o, if_pos rfl]
    · have hi := seen_at (d.mono (Nat.le_succ n)) (show a < n by omega)
      unfold valV at hi ⊢
      rw [List.find?_append]
      obtain ⟨x, hx, e⟩ := Option.map_eq_some_iff.mp hi
      rw [hx]
      exact congrArg some e
theorem seen_put {s : Nat → List Int} {n : Nat} (d : Dst s (n + 1)) : putK (seenK s n) (kyI (s n)) (.int (n : Nat)) = seenK s (n + 1) := by
  rw [putK_new _ (seen_off fun i hi => d i n hi (by omega)), seen_succ]
/-- a round: what comes at a + L is what was at a, and nothing has been twice before -/
structure Rnd (s : Nat → List Int) (a L : Nat) : Prop where
  pos : 0 < L
  dst : Dst s (a + L)
  back : s (a + L) = s a
theorem in_seen {s : Nat → List Int} {n : Nat} {v : V} (d : Dst s n) (h : valV (seenK s n) (kyI (s n)) = some v) : ∃ a L, a + L = n ∧ Rnd s a L ∧ v = .int (a : Nat) := by
  have : ∃ a, a < n ∧ s a = s n := Classical.byContradiction fun w => by
    rw [seen_off fun i hi z => w ⟨i, hi, z⟩] at h
    cases h
  obtain ⟨a, ha, e⟩ := this
  have e2 := seen_at d ha
  rw [e, h] at e2
  refine ⟨a, n - a, by omega, ⟨by omega, by rw [show a + (n - a) = n by omega]; exact d, by rw [show a + (n - a) = n by omega]; exact e.symm⟩, Option.some.inj e2⟩
theorem not_seen {s : Nat → List Int} {n : Nat} (d : Dst s n) (h : valV (seenK s n) (kyI (s n)) = none) : Dst s (n + 1) := fun i j a b => by
  by_cases z : j = n
  · subst z
    intro e
    rw [← e, seen_at d a] at h
    cases h
  · exact d i j a (by omega)
theorem ThAt.ins {c x : Addr} {H : Hp} {p : Int} {m : Nat} {ss : List Row} (h : ThAt c H x p m ss) : ∃ dx t, H x = some (.ins c dx (thF p t)) := let ⟨dx, t, _, e, _, _⟩ := h; ⟨dx, t, e⟩
theorem no_p : ∀ {p : Int} {t : Addr}, (thF p t).lookup ("p" : Str) = none := th_no (by decide +kernel) (by decide +kernel)
def SayMany (c : Addr) (n : Int) (H : Hp) (E : XK) : Prop := ∀ (d : Addr) (H' : Hp), Sm H H' → H' d = some (.xd [(("bound" : Str), .int n)]) → E (.ref c) (some d) H'
def spRound (C : Cd) (A : Ad) : Sp := fun vs H Q E => ∃ (x th tt tw tn : Addr) (p : Int) (hs : List Int) (gs : List (List Int)) (ss : List Row) (ws : List (Option Nat)) (ns : List Int), vs = [.ref x, .ref th, .ref tw, .ref tn] ∧ Rig A.c_Thing C H x th tt tw p hs gs ss ws ∧ H tn = some (.tup (ns.map V.int)) ∧ Gn p hs.length ns ∧
  (Dst (fun i => itr (stepF p hs gs ws) i ns) 3001 → SayMany A.c_TooMany 3000 H E) ∧
  ∀ (a L : Nat) t H', Rnd (fun i => itr (stepF p hs gs ws) i ns) a L → a + L ≤ 3000 → Sm H H' → H' t = some (.tup [.int (a : Nat), .int (L : Nat)]) → Q (.ref t) H'
theorem ok_round_of (T : Tx K mg A) (B : Tb K mg base A C) : FnOk P w K mg base (L2.CX P w) 14 A.f_round_of A.d_round_of ["thing", "hold", "wires", "numbers"] (spRound C A) := by
  have G_rule_of : FnOk P w K mg base CX0 13 A.f_rule_of A.d_rule_of ["thing", "hold", "wires"] (spRule A.c_Thing C.p_table_of C.p_row_of_sides C.p_added C.p_times C.p_stepped C.p_units) := ok_rule_of T B
  have G_moved : FnOk P w K mg base CX0 6 A.f_moved A.d_moved ["p", "rule", "numbers"] (spMoved C.p_moved) := ok_moved T B
  have G_Thing_p : FnOk P w K mg base CX0 1 A.f_Thing_p A.d_Thing_p ["self"] (spThP A.c_Thing) := ok_Thing_p T
  have G_TooMany___init__ : FnOk P w K mg base CX0 1 A.f_TooMany___init__ A.d_TooMany___init__ ["self", "bound"] (Xb.spIni K "bound") := ok_TooMany___init__ T
  obtain ⟨tkR, h_ROUNDS⟩ := T.v_ROUNDS
  refine T.d_round_of.F.okX sc_round_of (fun vs H Q E h => ?_) (fun cdv A' outer s H vs Q E hr h => ?_)
  · obtain ⟨x, th, tt, tw, tn, p, hs, gs, ss, ws, ns, rfl, _⟩ := h
    rfl
  · obtain ⟨x, th, tt, tw, tn, p, hs, gs, ss, ws, ns, rfl, R0, hn, gn, qn, q⟩ := h
    obtain ⟨p2, p13⟩ := R0.bd
    have hl := R0.hd.len
    refine ⟨_, (pss_cons (ps_set (i := 4) sc_round_of.nd rfl (.inl rfl) (pe_call G_rule_of hr (by rfl) T.d_rule_of.g T.d_rule_of.F.kp T.d_rule_of.b .nil pass0 (pa_cons (pv 0) (pa_cons (pv 1) (pa_cons (pv 2) pa_nil)))))
        (pss_cons (ps_set (i := 5) sc_round_of.nd rfl (.inl rfl) pe_dnewT)
        (pss_cons (ps_while (passes_of rfl) (pt_cmp (pc_dnotin (hu_of hr) (pv 3) (pv 5)))
        (pss_cons (ps_if (pt_cmpR op_ge (pe_callB call_len_dT (by rfl) T.b_len PySem.boot_len (pa_cons (pv 5) pa_nil)) (pe_glob (v := .int 3000) (by rfl) h_ROUNDS ⟨_, rfl⟩) (nomark _))
        (pss_one (ps_raise rfl (takes_of rfl rfl rfl rfl) (Xb.pmk_err T.e_TooMany T.n_TooMany_bound T.i_TooMany T.t_TooMany G_TooMany___init__ (hr.mono (by decide)) T.d_TooMany___init__.b pass0 (by rfl) T.g_TooMany (pa_cons (pe_glob (v := .int 3000) (by rfl) h_ROUNDS ⟨_, rfl⟩) pa_nil))))
        pss_nil)
        (pss_cons (ps_asg (pe_callB call_len_dT (by rfl) T.b_len PySem.boot_len (pa_cons (pv 5) pa_nil)) (pg_sub (pv 5) (pv 3) (set_dict (hu_of hr))))
        (pss_one (ps_set (i := 3) sc_round_of.nd rfl (.inl rfl) (pe_call G_moved (hr.mono (by decide)) (by rfl) T.d_moved.g T.d_moved.F.kp T.d_moved.b .nil pass0 (pa_cons (pe_meth0 (pv 0) T.cl_Thing T.d_Thing_p.m G_Thing_p (hr.mono (by decide)) T.d_Thing_p.b .nil pass0) (pa_cons (pv 4) (pa_cons (pv 3) pa_nil)))))))))
        (pss_one (ps_ret (pe_tup (pa_cons (pe_dget (hu_of hr) (pv 5) (pv 3) (fun _ _ => rfl)) (pa_cons (pe_op op_sub (pe_callB call_len_dT (by rfl) T.b_len PySem.boot_len (pa_cons (pv 5) pa_nil)) (pe_dget (hu_of hr) (pv 5) (pv 3) (fun _ _ => rfl))) pa_nil)))))))), ?_⟩
    refine ⟨.ref x, rfl, .ref th, rfl, .ref tw, rfl, x, th, tw, p, hs, gs, ss, ws, rfl, R0.pr, R0.hd, R0.thg, R0.few, R0.tb.len, R0.tb.ok, R0.sp, R0.wr, R0.tbs.t5, R0.tbs.t4, R0.tbs.t1, R0.tbs.t2, R0.tbs.t6, R0.tbs.t7, fun rb xs H1 s1 eb tr => ?_⟩
    refine fun S hS => ?_
    have f1 : Sm H1 (upd H1 S (.dT [])) := .new hS
    have R1 := R0.sm s1
    have big : sizeLine = 16777216 := by decide
    let sq : Nat → List Int := fun i => itr (stepF p hs gs ws) i ns
    let W : Nat → L2.St → Hp → Prop := fun n σ H' => ∃ (i : Nat) (tm : Addr), σ = [some (.ref x), some (.ref th), some (.ref tw), some (.ref tm), some (.ref rb), some (.ref S)] ∧ n = 3001 - i ∧ i ≤ 3000 ∧ Dst sq i ∧ H' S = some (.dT (seenK sq i)) ∧ H' tm = some (.tup ((sq i).map V.int)) ∧ Sm H1 H'
    refine ⟨W, ⟨3001, 0, tn, rfl, rfl, Nat.zero_le _, fun i j a b => absurd b (Nat.not_lt_zero _), upd_same, f1.tup (s1.tup hn), f1⟩, ?_⟩
    rintro n σ H2 ⟨i, tm, rfl, en, i3, dst, eS, em, s2⟩
    have em' : H2 tm = some (.tup ((kyI (sq i)).map kV)) := by rw [ky_kv]; exact em
    refine ⟨.ref tm, rfl, .ref S, rfl, S, _, rfl, .t eS em', ?_⟩
    cases hv : valV (seenK sq i) (kyI (sq i)) with
    | some v =>
      obtain ⟨a, L, el, rnd, rfl⟩ := in_seen dst hv
      refine ⟨false, rfl, ?_⟩
      have g1 : DGet H2 S (.ref tm) (some (.int (a : Nat))) := by
        have := DGet.t eS em'
        rw [hv] at this
        exact this
      refine ⟨.ref S, rfl, .ref tm, rfl, S, .int (a : Nat), rfl, g1, ?_⟩
      refine ⟨.ref S, rfl, S, _, rfl, eS, .ref S, rfl, .ref tm, rfl, S, .int (a : Nat), rfl, g1, _, _, rfl, rfl, (by show 2 ≤ sizeLine; decide), fun t ht => ?_⟩
      rw [seen_len]
      dsimp only
      rw [show ((i : Nat) : Int) - (a : Nat) = (L : Nat) by omega]
      exact q a L t _ rnd (by omega) (s1.trans (s2.trans (.new ht))) upd_same
    | none =>
      have d1 := not_seen dst hv
      refine ⟨true, rfl, ?_⟩
      refine ⟨fun σ' H' => ∃ m', m' < n ∧ W m' σ' H', fun _ _ h => h, ?_⟩
      refine ⟨.ref S, rfl, S, _, rfl, eS, _, _, rfl, rfl, _, rfl, ?_⟩
      rw [seen_len]
      refine ite2 (fun cc => ?_) (fun cc => ?_)
      · have i30 : i = 3000 := by
          have := of_decide_eq_true cc
          omega
        subst i30
        exact Xb.err_end T.e_TooMany.ox T.n_TooMany_bound fun dd nd => qn d1 dd _ (s1.trans (s2.trans (.new nd))) upd_same
      · have i30 : i < 3000 := Classical.byContradiction fun w => cc (decide_eq_true (by omega))
        have R2 := R1.sm s2
        obtain ⟨dx, tx, ex⟩ := ThAt.ins R2.thg
        refine ⟨.ref S, rfl, S, _, rfl, eS, ?_⟩
        refine ⟨.ref S, rfl, .ref tm, rfl, S, _, rfl, .t eS em' (by rw [seen_len]; omega), ?_⟩
        rw [seen_len, seen_put d1]
        have s3 : Sm H1 (upd H2 S (.dT (seenK sq (i + 1)))) := s2.put hS
        have eS3 : upd H2 S (.dT (seenK sq (i + 1))) S = some (.dT (seenK sq (i + 1))) := upd_same
        have nm : tm ≠ S := fun z => by
          rw [z, eS] at em
          cases em
        have em3 : upd H2 S (.dT (seenK sq (i + 1))) tm = some (.tup ((sq i).map V.int)) := by rw [upd_ne nm]; exact em
        have nx : x ≠ S := fun z => by
          rw [z, eS] at ex
          cases ex
        have R3 := R1.sm s3
        generalize upd H2 S (.dT (seenK sq (i + 1))) = H3 at s3 eS3 em3 R3 ⊢
        obtain ⟨dx3, tx3, ex3⟩ := ThAt.ins R3.thg
        have ru := Ru.one (p := p) (hs := hs) (gs := gs) (ws := ws) (by omega) R0.wr.len
        refine ⟨.ref x, rfl, x, dx3, _, rfl, ex3, no_p, x, p, hs.length, ss, rfl, R3.thg, .ref rb, rfl, .ref tm, rfl, ?_⟩
        refine ⟨p, rb, tm, .l, hs.length, xs, ruleM p hs gs ws, sq i, rfl, by omega, p13, hl, s3.lst eb, ?_, ru.len, ru.gn, em3, R0.gn (n := i) gn, R3.tbs.t8, fun t4 H4 s4 e4 => ⟨3001 - (i + 1), by omega, i + 1, t4, rfl, rfl, by omega, d1, ?_, ?_, s3.trans s4⟩⟩
        · exact ⟨tr.len, fun e => let ⟨a, u, h1, h2, h3⟩ := tr.get e; ⟨a, u, h1, h2, s3.tup h3⟩⟩
        · exact s4.kp _ _ (fun _ z => by cases z) eS3
        · rw [ru.is (sq i) (R0.gn (n := i) gn)] at e4
          rw [show sq (i + 1) = itr (stepF p hs gs ws) 1 (sq i) from itr_succ i ns]
          exact e4
-- CUT
/-! ### round and round: the law -/
theorem unit_rg {p : Int} {m k : Nat} (p1 : 1 < p) : Rg p (Lin.unitL m k) := fun u hu => by
  unfold Lin.unitL at hu
  obtain ⟨j, _, rfl⟩ := List.mem_map.mp hu
  split <;> omega
theorem unit_len {m k : Nat} : (Lin.unitL m k).length = m := by
  unfold Lin.unitL
  rw [List.length_map, List.length_range]
def spLed : Sp := fun vs H Q _ => ∃ (p : Int) (th tt tw : Addr) (hs : List Int) (gs : List (List Int)) (ws : List (Option Nat)), vs = [.int p, .ref th, .ref tt, .ref tw] ∧ 1 < p ∧ p ≤ 13 ∧ HdAt H th hs ∧ TbAt p hs.length H tt gs ∧ WrAt hs.length H tw ws ∧
  ∀ t xs H', Same H H' → H t = none → H' t = some (.lst xs) → Trs H' xs (ruleM p hs gs ws) → Q (.ref t) H'
theorem Trs.putL {H : Hp} {xs ys : List V} {R : List (List Int)} {L : Addr} {o : HO} (h : Trs H xs R) (e : H L = some (.lst ys)) : Trs (upd H L o) xs R := ⟨h.len, fun e1 => let ⟨a, u, h1, h2, h3⟩ := h.get e1; ⟨a, u, h1, h2, by rw [upd_ne (ne_of h3 e (by intro z; cases z))]; exact h3⟩⟩
theorem WrAt.same {m : Nat} {H H' : Hp} {t : Addr} {ws : List (Option Nat)} (h : WrAt m H t ws) (s : Same H H') : WrAt m H' t ws := h.sm (.of_same s)
theorem ok__law_led (T : Tx K mg A) : FnOk P w K mg base CX0 3 A.f__law_led A.d__law_led ["_law_p", "_law_sides", "_law_grid", "_law_wires_here"] spLed := by
  have G__law_step : FnOk P w K mg base CX0 2 A.f__law_step A.d__law_step ["_law_p", "_law_sides", "_law_grid", "_law_wires_here", "_law_held"] spLStep := ok__law_step T
  refine T.d__law_led.F.ok sc__law_led (fun vs H Q E h => ?_) (fun cdv A' outer s H vs Q E hr h => ?_)
  · obtain ⟨p, th, tt, tw, hs, gs, ws, rfl, _⟩ := h
    rfl
  · obtain ⟨p, th, tt, tw, hs, gs, ws, rfl, p1, p13, hh, tb, wr, q⟩ := h
    have hl := hh.len
    refine ⟨_, (pss_cons (ps_set (i := 4) sc__law_led.nd rfl (.inr rfl) (pe_callB call_len_seq (by rfl) T.b_len PySem.boot_len (pa_cons (pv 1) pa_nil)))
        (pss_cons (ps_setLc (i := 5) (own := [("_law_k", 6)]) rfl sc__law_led.nd rfl rfl (sw_true rfl rfl rfl (by decide +kernel)) (pi_range1 (by rfl) T.b_range (pa_cons (pv 4) pa_nil)) (blkOk_by (N := N__law_led) (sc := defScope s__law_led) (by decide +kernel)) (fun _ _ _ _ _ => (pg_name (i := 6) sc__law_led.nd rfl (.inr rfl))) (fun _ _ _ _ _ => pts_nil) (fun _ _ _ _ _ => (pe_callTy (show CallR _ _ (rTupOf K) from call_tuple_of) (by rfl) T.b_tuple PyProof.Rows.boot_tuple (pa_cons (pe_lc (own := [("_law_j", 8)]) rfl sc__law_led.nd (pi_range1 (by rfl) T.b_range (pa_cons (pv 4) pa_nil)) (blkOk_by (N := N__law_led) (by kernel_rfl)) (fun _ _ _ _ _ => (pg_name (i := 8) sc__law_led.nd rfl (.inl rfl))) (fun _ _ _ _ _ => pts_nil) (fun _ _ _ _ _ => (pe_callTy call_int1 (by rfl) T.b_int PyProof.Rows.boot_int (pa_cons (pe_cmpR op_eq (pv 8) (pv 6) (nomark _)) pa_nil)))) pa_nil))))
        (pss_one (ps_ret (pe_lc (own := [("_law_one", 7)]) rfl sc__law_led.nd (pi_list (pv 5)) (blkOk_by (N := N__law_led) (sc := defScope s__law_led) (by decide +kernel)) (fun _ _ _ _ _ => (pg_name (i := 7) sc__law_led.nd rfl (.inl rfl))) (fun _ _ _ _ _ => pts_nil) (fun _ _ _ _ _ => (pe_call G__law_step hr (by rfl) T.d__law_step.g T.d__law_step.F.kp T.d__law_step.b .nil pass0 (pa_cons (pv 0) (pa_cons (pv 1) (pa_cons (pv 2) (pa_cons (pv 3) (pa_cons (pv 7) pa_nil)))))))))))), ?_⟩
    refine ⟨.ref th, rfl, th, _, rfl, .inr (SqT.of hh.at_), ?_⟩
    rw [List.length_map]
    refine ⟨.int (hs.length : Nat), rfl, (hs.length : Nat), rfl, by omega, by omega, fun D hD => lc_range (fun i H' => Same H H' ∧ ∃ zs, H' D = some (.lst zs) ∧ Trs H' zs ((List.range i).map (Lin.unitL hs.length))) ⟨same_upd hD, [], upd_same, rfl, fun e => by simp at e⟩ ?_ ?_⟩
    · rintro i H1 hi ⟨s1, zs, eD, tr⟩
      rw [Int.toNat_natCast] at hi
      have zl := tr.len
      rw [List.length_map, List.length_range] at zl
      refine ⟨rfl, .int (hs.length : Nat), rfl, (hs.length : Nat), rfl, by omega, by omega, fun D2 hD2 => lc_range (fun j H' => Same H1 H' ∧ H' D2 = some (.lst (((List.range j).map fun j => if j = i then (1 : Int) else 0).map V.int))) ⟨same_upd hD2, upd_same⟩ ?_ ?_⟩
      · rintro j H2 hj ⟨s2, eD2⟩
        rw [Int.toNat_natCast] at hj
        have lz : ((((List.range j).map fun j => if j = i then (1 : Int) else 0)).map V.int).length < sizeLine := by
          rw [List.length_map, List.length_map, List.length_range]
          exact small (by omega)
        refine ⟨rfl, .int (0 + (j : Nat)), rfl, .int (0 + (i : Nat)), rfl, rfl, .inr ⟨_, rfl, _, eD2, lz, same_put s2 hD2, ?_⟩⟩
        rw [upd_same, List.range_succ, List.map_append, List.map_append]
        refine congrArg (fun z => some (HO.lst (_ ++ [V.int z]))) ?_
        by_cases z : j = i
        · rw [if_pos (decide_eq_true (by rw [z]))]
          exact (if_pos z).symm
        · rw [if_neg fun w => z (by have := V.int.inj (of_decide_eq_true w); omega)]
          exact (if_neg z).symm
      · rintro H2 ⟨s2, eD2⟩
        rw [Int.toNat_natCast] at eD2
        refine ⟨D2, _, rfl, .inl ⟨SqL.of eD2, fun t ht => ?_⟩⟩
        have s3 := same_upd (o := .tup (((List.range hs.length).map fun j => if j = i then (1 : Int) else 0).map V.int)) ht
        have e3 : upd H2 t (.tup (((List.range hs.length).map fun j => if j = i then (1 : Int) else 0).map V.int)) t = some (.tup ((Lin.unitL hs.length i).map V.int)) := upd_same
        generalize upd H2 t (.tup (((List.range hs.length).map fun j => if j = i then (1 : Int) else 0).map V.int)) = H3 at s3 e3 ⊢
        have s23 := s2.trans s3
        refine ⟨zs, s23 _ _ eD, small (by omega), same_put (s1.trans s23) hD, zs ++ [.ref t], upd_same, ?_⟩
        rw [List.range_succ, List.map_append]
        exact ((tr.same s23).snoc e3).putL (s23 _ _ eD)
    · rintro H1 ⟨s1, zs, eD, tr⟩
      rw [Int.toNat_natCast] at tr
      have zl := tr.len
      rw [List.length_map, List.length_range] at zl
      refine ⟨.ref D, rfl, D, rfl, ⟨_, SqL.of eD⟩, fun D3 hD3 => lc_it (walk_list (xs := zs)) (fun i H' => Same H1 H' ∧ ∃ ys, H' D3 = some (.lst ys) ∧ Trs H' ys ((ruleM p hs gs ws).take i)) ⟨same_upd hD3, [], upd_same, rfl, fun e => by simp at e⟩ (fun i H' _ h => SqL.of (h.1 _ _ eD)) ?_ ?_⟩
      · rintro i x H0 H2 hi ⟨s2, ys, eD3, try_⟩ ⟨rfl, hx⟩
        obtain ⟨b, r, rfl, er, hb⟩ := tr.get hx
        rw [List.getElem?_map] at er
        obtain ⟨i2, ei, rfl⟩ := Option.map_eq_some_iff.mp er
        have ilt : i < hs.length := by omega
        rw [List.getElem?_range ilt] at ei
        cases ei
        have s12 := s1.trans s2
        have yl := try_.len
        rw [List.length_take] at yl
        refine ⟨rfl, .int p, rfl, .ref th, rfl, .ref tt, rfl, .ref tw, rfl, .ref b, rfl, p, th, tt, tw, b, hs, gs, ws, _, rfl, by omega, p13, hh.same s12, tb.same s12, wr.same s12, s2 _ _ hb, unit_len, unit_rg p1, fun t H3 s3 et => ?_⟩
        have eg : (ruleM p hs gs ws)[i]? = some (stepF p hs gs ws (Lin.unitL hs.length i)) := by
          unfold ruleM
          rw [List.getElem?_map, List.getElem?_range ilt]
          rfl
        refine ⟨ys, s3 _ _ eD3, small (by omega), same_put (s2.trans s3) hD3, ys ++ [.ref t], upd_same, ?_⟩
        rw [take_snoc eg]
        exact ((try_.same s3).snoc et).putL (s3 _ _ eD3)
      · rintro H2 ⟨s2, ys, eD3, try_⟩
        rw [List.take_of_length_le (by unfold ruleM; rw [List.length_map, List.length_range]; omega)] at try_
        exact q D3 ys H2 (s1.trans s2) (s1.free hD3) eD3 try_
def spGone85 : Sp := fun vs H Q _ => ∃ (p : Int) (m : Nat) (ti tn : Addr) (xs : List V) (R : List (List Int)) (f : List Int → List Int) (ns : List Int), vs = [.int p, .ref ti, .ref tn] ∧ 1 < p ∧ p ≤ 13 ∧ m ≤ 10 ∧ H ti = some (.lst xs) ∧ Trs H xs R ∧ Ru p m f 1 R ∧ (∀ v, Gn p m v → Gn p m (f v)) ∧ H tn = some (.tup (ns.map V.int)) ∧ Gn p m ns ∧
  (Dst (fun i => itr f i ns) 3001 → ∀ H', Same H H' → Q .non H') ∧
  ∀ (a L : Nat) t H', Rnd (fun i => itr f i ns) a L → a + L ≤ 3000 → Same H H' → H' t = some (.tup [.int (a : Nat), .int (L : Nat)]) → Q (.ref t) H'
theorem rg_at {m j : Nat} (h : j < m) : (rgV 0 (m : Nat))[j]? = some (.int (j : Nat)) := by
  unfold rgV
  rw [show (((m : Nat) : Int) - 0).toNat = m by omega, List.getElem?_map, List.getElem?_range h]
  show some (V.int (0 + (j : Nat))) = _
  rw [Int.zero_add]
theorem ok__law_gone_round (T : Tx K mg A) : FnOk P w K mg base CX0 1 A.f__law_gone_round A.d__law_gone_round ["_law_p", "_law_images", "_law_held"] spGone85 := by
  refine T.d__law_gone_round.F.ok sc__law_gone_round (fun vs H Q E h => ?_) (fun cdv A' outer s H vs Q E hr h => ?_)
  · obtain ⟨p, m, ti, tn, xs, R, f, ns, rfl, _⟩ := h
    rfl
  · obtain ⟨p, m, ti, tn, xs, R, f, ns, rfl, p1, p13, m10, hi, tr, ru, fg, hn, gn, qn, q⟩ := h
    have p0 : 0 < p := by omega
    have xl := tr.len
    have rl := ru.len
    have big : sizeLine = 16777216 := by decide
    refine ⟨_, (pss_cons (ps_set (i := 3) sc__law_gone_round.nd rfl (.inl rfl) (Dt.pe_disp1 (hu_of hr) (pv 2) pe_int))
        (pss_cons (ps_set (i := 4) sc__law_gone_round.nd rfl (.inr rfl) (pe_listRg rfl (by rfl) T.b_list (prg_1 (by rfl) T.b_range (pe_callB call_len_seq (by rfl) T.b_len PySem.boot_len (pa_cons (pv 2) pa_nil)))))
        (pss_cons (ps_for PassesOwn.never rfl (pi_range2 (by rfl) T.b_range (pa_cons pe_int (pa_cons pe_int pa_nil))) (pg_name (i := 5) sc__law_gone_round.nd rfl (.inl rfl))
        (pss_cons (ps_set (i := 2) sc__law_gone_round.nd rfl (.inr rfl) (pe_callTy call_tuple_of (by rfl) T.b_tuple PyProof.Rows.boot_tuple (pa_cons (pe_lc (own := [("_law_j", 6)]) rfl sc__law_gone_round.nd (pi_list (pv 4)) (blkOk_by (N := N__law_gone_round) (sc := defScope s__law_gone_round) (by decide +kernel)) (fun _ _ _ _ _ => (pg_name (i := 6) sc__law_gone_round.nd rfl (.inr rfl))) (fun _ _ _ _ _ => pts_nil) (fun _ _ _ _ _ => (pe_op op_mod (pe_callB (show CallR _ _ (rSum K) from cr_sum rfl) (by rfl) T.b_sum PyProof.Rows.boot_sum (pa_cons (pe_lc (own := [("_law_k", 7)]) rfl sc__law_gone_round.nd (show PI _ _ _ (iList K (tVar 4)) from pi_list (pv 4)) (blkOk_by (N := N__law_gone_round) (by kernel_rfl)) (fun _ _ _ _ _ => (pg_name (i := 7) sc__law_gone_round.nd rfl (.inl rfl))) (fun _ _ _ _ _ => pts_nil) (fun _ _ _ _ _ => (pe_op op_mul (pe_ix (show IxR _ (rIxT K) from ix_tup) (pv 2) (pv 7) (fun _ _ => rfl)) (pe_ix (show IxR _ (rIxT K) from ix_tup) (pe_ix (show IxR _ (rIxL K) from ix_list) (pv 1) (pv 7) (fun _ _ => rfl)) (pv 6) (fun _ _ => rfl))))) pa_nil)) (pv 0)))) pa_nil)))
        (pss_cons (ps_if (pt_cmp (pc_din (hu_of hr) (pv 2) (pv 3)))
        (pss_one (ps_ret (pe_tup (pa_cons (pe_dget (hu_of hr) (pv 3) (pv 2) (fun _ _ => rfl)) (pa_cons (pe_op op_sub (pv 5) (pe_dget (hu_of hr) (pv 3) (pv 2) (fun _ _ => rfl))) pa_nil)))))
        pss_nil)
        (pss_one (ps_asg (pv 5) (pg_sub (pv 3) (pv 2) (set_dict (hu_of hr))))))))
        (pss_one (ps_ret pe_non))))), ?_⟩
    let sq : Nat → List Int := fun i => itr f i ns
    refine fun S hS => ?_
    have s0 : Same H (upd H S (.dT [])) := same_upd hS
    refine ⟨.ref tn, rfl, upd_same, tn, kyI ns, rfl, by rw [ky_kv]; exact s0 _ _ hn, ?_⟩
    have s1 : Same H (upd (upd H S (.dT [])) S (.dT [(kyI ns, .int 0)])) := same_put s0 hS
    have eS : upd (upd H S (.dT [])) S (.dT [(kyI ns, .int 0)]) S = some (.dT (seenK sq 1)) := upd_same
    generalize upd (upd H S (.dT [])) S (.dT [(kyI ns, .int 0)]) = H1 at s1 eS ⊢
    refine ⟨.ref tn, rfl, tn, _, rfl, .inr (SqT.of (s1 _ _ hn)), _, rfl, .of_le (by omega) (by rw [List.length_map, gn.1]; omega) (by omega) (by omega), fun Pp hP => ?_⟩
    rw [List.length_map, gn.1]
    have s2 : Same H1 (upd H1 Pp (.lst (rgV 0 (m : Nat)))) := same_upd hP
    have eP : upd H1 Pp (.lst (rgV 0 (m : Nat))) Pp = some (.lst (rgV 0 (m : Nat))) := upd_same
    have eS2 := s2 _ _ eS
    generalize upd H1 Pp (.lst (rgV 0 (m : Nat))) = H2 at s2 eP eS2 ⊢
    have hP0 := s1.free hP
    have s12 := s1.trans s2
    refine ⟨1, 3001, rfl, ⟨by omega, by omega, by omega, by omega⟩, for_range (n := 3000) (fun i σ H' => ∃ (tm : Addr) (v5 : Option V), σ = [some (.int p), some (.ref ti), some (.ref tm), some (.ref S), some (.ref Pp), v5, none, none] ∧ Same H H' ∧ H' S = some (.dT (seenK sq (i + 1))) ∧ H' Pp = some (.lst (rgV 0 (m : Nat))) ∧ H' tm = some (.tup ((sq i).map V.int)) ∧ Dst sq (i + 1)) ⟨tn, _, rfl, s12, eS2, eP, s12 _ _ hn, fun i j a b => by omega⟩ ?_ ?_⟩
    · rintro i σ H3 hi3 ⟨tm, v5, rfl, s3, eS3, eP3, em3, dst⟩
      have gi : Gn p m (sq i) := itr_gn fg i gn
      have e0 : (1 + (i : Nat) : Int) = ((i + 1 : Nat) : Int) := by omega
      dsimp only
      rw [e0]
      have sz : sq (i + 1) = Lin.toldL p R (sq i) m := by
        rw [ru.is (sq i) gi]
        exact itr_succ i ns
      refine ⟨.ref Pp, rfl, Pp, rfl, ⟨_, SqL.of eP3⟩, fun D hD => lc_it (walk_list (xs := rgV 0 (m : Nat))) (fun j H' => Same H3 H' ∧ H' D = some (.lst (((Lin.toldL p R (sq i) m).take j).map V.int))) ⟨same_upd hD, upd_same⟩ (fun j H' _ h => SqL.of (h.1 _ _ eP3)) ?_ ?_⟩
      · rintro j y H0 H4 hj ⟨s4, eD⟩ ⟨rfl, hy⟩
        rw [rgV_length] at hj
        have jm : j < m := by omega
        rw [rg_at jm] at hy
        cases hy
        have eP4 := s4 _ _ eP3
        dsimp only [wipe, List.set]
        refine ⟨rfl, .ref Pp, rfl, Pp, rfl, ⟨_, SqL.of eP4⟩, fun D2 hD2 => lc_it (walk_list (xs := rgV 0 (m : Nat))) (fun l H' => Same H4 H' ∧ H' D2 = some (.lst (((List.range l).map fun k => vec (sq i) k * Lin.col R j k).map V.int))) ⟨same_upd hD2, upd_same⟩ (fun l H' _ h => SqL.of (h.1 _ _ eP4)) ?_ ?_⟩
        · rintro l y H0 H5 hl ⟨s5, eD2⟩ ⟨rfl, hy⟩
          rw [rgV_length] at hl
          have lm : l < m := by omega
          rw [rg_at lm] at hy
          cases hy
          have s35 := s3.trans (s4.trans s5)
          have xj : xs[l]? = some (xs[l]'(by omega)) := List.getElem?_eq_getElem (by omega)
          obtain ⟨c, r, ec, er, hc⟩ := tr.get xj
          have gr := ru.gn r (List.mem_of_getElem? er)
          have vi := gi.2.vec p0 l
          have vr := gr.2.vec p0 j
          rw [ec] at xj
          refine ⟨rfl, .ref tm, rfl, .int (l : Nat), rfl, tm, _, (l : Nat), .int (vec (sq i) l), rfl, rfl, SqT.of ((s4.trans s5) _ _ em3), atI_nat (by rw [List.getElem?_map, vec_get (by rw [gi.1]; exact lm)]; rfl), .ref ti, rfl, .int (l : Nat), rfl, ti, xs, (l : Nat), .ref c, rfl, rfl, SqL.of (s35 _ _ hi), atI_nat xj, .int (j : Nat), rfl, c, _, (j : Nat), .int (vec r j), rfl, rfl, SqT.of (s35 _ _ hc), atI_nat (by rw [List.getElem?_map, vec_get (by rw [gr.1]; exact jm)]; rfl), vec (sq i) l, vec r j, rfl, rfl, cmul ⟨vi.1, by omega⟩, _, eD2, ?_, same_put s5 hD2, ?_⟩
          · rw [List.length_map, List.length_map, List.length_range]
            exact small (by omega)
          · rw [upd_same, List.range_succ, List.map_append, List.map_append, ← col_at er]
            rfl
        · rintro H5 ⟨s5, eD2⟩
          rw [rgV_length, show (((m : Nat) : Int) - 0).toNat = m by omega] at eD2
          have tv : ((List.range m).map fun k => vec (sq i) k * Lin.col R j k).sum = Lin.toldV R (vec (sq i)) m j := Lin.sum_range _ _ _
          have eg : (Lin.toldL p R (sq i) m)[j]? = some (Lin.toldV R (vec (sq i)) m j % p) := by
            unfold Lin.toldL
            rw [List.getElem?_map, List.getElem?_range jm]
            rfl
          refine ⟨D2, _, rfl, SqL.of eD2, .int p, rfl, _, p, rfl, rfl, p0, _, s5 _ _ eD, ?_, same_put (s4.trans s5) hD, ?_⟩
          · rw [List.length_map, List.length_take]
            exact small (by omega)
          · rw [upd_same, tv, take_snoc eg, List.map_append]
            rfl
      · rintro H4 ⟨s4, eD⟩
        rw [rgV_length, List.take_of_length_le (by rw [told_len]; omega), ← sz] at eD
        refine ⟨D, _, rfl, .inl ⟨SqL.of eD, fun t5 ht5 => ?_⟩⟩
        have s5 : Same H3 (upd H4 t5 (.tup ((sq (i + 1)).map V.int))) := s4.trans (same_upd ht5)
        have e5 : upd H4 t5 (.tup ((sq (i + 1)).map V.int)) t5 = some (.tup ((sq (i + 1)).map V.int)) := upd_same
        generalize upd H4 t5 (.tup ((sq (i + 1)).map V.int)) = H5 at s5 e5 ⊢
        have eS5 := s5 _ _ eS3
        have e5' : H5 t5 = some (.tup ((kyI (sq (i + 1))).map kV)) := by rw [ky_kv]; exact e5
        refine ⟨.ref t5, rfl, .ref S, rfl, S, _, rfl, .t eS5 e5', ?_⟩
        cases hv : valV (seenK sq (i + 1)) (kyI (sq (i + 1))) with
        | some v =>
          obtain ⟨a, L, el, rnd, rfl⟩ := in_seen dst hv
          have g1 : DGet H5 S (.ref t5) (some (.int (a : Nat))) := by
            have := DGet.t eS5 e5'
            rw [hv] at this
            exact this
          refine ⟨true, rfl, ?_⟩
          refine ⟨.ref S, rfl, .ref t5, rfl, S, .int (a : Nat), rfl, g1, ?_⟩
          refine ⟨.int ((i + 1 : Nat) : Int), rfl, .ref S, rfl, .ref t5, rfl, S, .int (a : Nat), rfl, g1, _, _, rfl, rfl, (by show 2 ≤ sizeLine; decide), fun t ht => ?_⟩
          show Q (.ref t) (upd H5 t (.tup [.int (a : Nat), .int (((i + 1 : Nat) : Int) - (a : Nat))]))
          rw [show ((i + 1 : Nat) : Int) - (a : Nat) = (L : Nat) by omega]
          exact q a L t _ rnd (by omega) (s3.trans (s5.trans (same_upd ht))) upd_same
        | none =>
          have d1 := not_seen dst hv
          refine ⟨false, rfl, ?_⟩
          refine ⟨.int ((i + 1 : Nat) : Int), rfl, .ref S, rfl, .ref t5, rfl, S, _, rfl, .t eS5 e5' (by rw [seen_len]; omega), ?_⟩
          rw [seen_put d1]
          have nt : t5 ≠ S := fun z => by
            rw [z, eS5] at e5
            cases e5
          have nP : Pp ≠ S := fun z => by
            have := s5 _ _ eP3
            rw [z, eS5] at this
            cases this
          exact ⟨t5, _, rfl, same_put (s3.trans s5) hS, upd_same, by rw [upd_ne nP]; exact s5 _ _ eP3, by rw [upd_ne nt]; exact e5, d1⟩
    · rintro σ H3 ⟨tm, v5, rfl, s3, eS3, eP3, em3, dst⟩
      exact qn dst H3 s3
def spAsk85 (C : Cd) (A : Ad) : Sp := fun vs H Q _ => ∃ (x th tt tw tn : Addr) (p : Int) (hs : List Int) (gs : List (List Int)) (ss : List Row) (ws : List (Option Nat)) (ns : List Int), vs = [.ref x, .ref th, .ref tw, .ref tn] ∧ Rig A.c_Thing C H x th tt tw p hs gs ss ws ∧ H tn = some (.tup (ns.map V.int)) ∧ Gn p hs.length ns ∧
  (Dst (fun i => itr (stepF p hs gs ws) i ns) 3001 → ∀ l H', Sm H H' → H' l = some (.lst [.non, .int 3000]) → Q (.ref l) H') ∧
  ∀ (a L : Nat) t l H', Rnd (fun i => itr (stepF p hs gs ws) i ns) a L → a + L ≤ 3000 → Sm H H' → H' t = some (.tup [.int (a : Nat), .int (L : Nat)]) → H' l = some (.lst [.ref t, .non]) → Q (.ref l) H'
theorem ok__law_asked (T : Tx K mg A) (B : Tb K mg base A C) : FnOk P w K mg base CX0 15 A.f__law_asked A.d__law_asked ["_law_thing", "_law_sides", "_law_wires_here", "_law_held"] (spAsk85 C A) := by
  have G_round_of : FnOk P w K mg base (L2.CX P w) 14 A.f_round_of A.d_round_of ["thing", "hold", "wires", "numbers"] (spRound C A) := ok_round_of T B
  refine T.d__law_asked.F.ok sc__law_asked (fun vs H Q E h => ?_) (fun cdv A' outer s H vs Q E hr h => ?_)
  · obtain ⟨x, th, tt, tw, tn, p, hs, gs, ss, ws, ns, rfl, _⟩ := h
    rfl
  · obtain ⟨x, th, tt, tw, tn, p, hs, gs, ss, ws, ns, rfl, R0, hn, gn, qn, q⟩ := h
    refine ⟨_, (pss_cons (ps_set (i := 4) sc__law_asked.nd rfl (.inl rfl) pe_non)
        (pss_cons (ps_set (i := 5) sc__law_asked.nd rfl (.inl rfl) pe_non)
        (pss_cons (Xa.ps_try_in (i := 6) rfl rfl sc__law_asked.nd rfl rfl ⟨rfl, by decide, .inl T.g_TooMany⟩ takes0 rfl (fun W pn xe tk _ => (pss_one (ps_set (i := 5) sc__law_asked.nd rfl (.inl rfl) (pe_callS G_round_of hr (by rfl) T.d_round_of.g T.d_round_of.F.kp T.d_round_of.b (fun σ => passAt tk σ) (pa_cons (pv 0) (pa_cons (pv 1) (pa_cons (pv 2) (pa_cons (pv 3) pa_nil))))))))
        (fun a pn => (pss_cons (ps_set (i := 4) sc__law_asked.nd rfl (.inl rfl) (show PE _ _ (Xb.tBy K "bound" (tVar 6)) from Xb.pe_by (pv 6)))
        (pss_one (ps_if (PW.pt (pw_or (pt_not (pt_val (pe_callB (show CallR _ _ (Xb.rIsE K) from Xb.call_isE) (by rfl) T.b_isinstance PyProof.Rows.boot_isinstance (pa_cons (pv 6) (pa_cons (pe_glob (v := .ref _) (by rfl) T.g_PostError rfl) pa_nil))))) (pw_or1 (pt_val (pe_callB (show CallR _ _ (Xb.rIsET K) from Xb.call_isET) (by rfl) T.b_isinstance PyProof.Rows.boot_isinstance (pa_cons (pv 6) (pa_cons (pe_tup (pa_cons (pe_glob (v := .ref _) (by rfl) T.g_BadNumber rfl) (pa_cons (pe_glob (v := .ref _) (by rfl) T.g_BadPost rfl) (pa_cons (pe_glob (v := .ref _) (by rfl) T.g_BadThing rfl) (pa_cons (pe_glob (v := .ref _) (by rfl) T.g_Still rfl) pa_nil))))) pa_nil)))))))
        (pss_one (ps_set (i := 4) sc__law_asked.nd rfl (.inl rfl) pe_str))
        pss_nil)))))
        (pss_one (ps_ret (pe_lst (pa_cons (pv 5) (pa_cons (pv 4) pa_nil)))))))), ?_⟩
    refine ⟨.ref x, rfl, .ref th, rfl, .ref tw, rfl, .ref tn, rfl, x, th, tt, tw, tn, p, hs, gs, ss, ws, ns, rfl, R0, hn, gn, fun dst d H' s e => ?_, fun a L t H' rnd l s e => ?_⟩
    · refine ⟨true, Xb.exm_of T.k_TooMany T.e_TooMany.ss, fun _ a oe na z hv => ?_, fun q => nomatch q⟩
      have ea := Xb.errAt_new na e z hv
      have s1 : Same H' (upd H' a (Xa.pin a oe)) := same_upd na
      generalize upd H' a (Xa.pin a oe) = H1 at ea s1 ⊢
      refine ⟨.ref a, rfl, a, A.c_TooMany, d, _, .int 3000, rfl, T.e_TooMany, ea, T.n_TooMany_bound, rfl, ?_⟩
      refine ⟨.ref a, rfl, a, A.c_TooMany, d, _, .ref A.c_PostError, _, true, rfl, T.e_TooMany, T.kg, ea, .own _, Xb.kit_yes T.k_PostError T.u_TooMany_PostError, true, rfl, ?_⟩
      refine ⟨.ref a, rfl, (by show 4 ≤ sizeLine; decide), fun t2 h2 => ?_⟩
      have s2 := same_upd (o := .tup ([A.c_BadNumber, A.c_BadPost, A.c_BadThing, A.c_Still].map V.ref)) h2
      refine ⟨a, A.c_TooMany, d, t2, _, _, [A.c_BadNumber, A.c_BadPost, A.c_BadThing, A.c_Still].map Value.ref, false, rfl, upd_same, T.e_TooMany, T.kg, ea.same s2, Xb.kit_pair (l := [A.c_BadNumber, A.c_BadPost, A.c_BadThing, A.c_Still]), Xb.kit_none fun D hD => ?_, ?_⟩
      · simp only [List.mem_cons, List.not_mem_nil, or_false] at hD
        rcases hD with rfl | rfl | rfl | rfl
        · exact Xb.kit_no T.e_TooMany T.k_BadNumber T.u_TooMany_BadNumber
        · exact Xb.kit_no T.e_TooMany T.k_BadPost T.u_TooMany_BadPost
        · exact Xb.kit_no T.e_TooMany T.k_BadThing T.u_TooMany_BadThing
        · exact Xb.kit_no T.e_TooMany T.k_Still T.u_TooMany_Still
      refine ⟨false, rfl, ?_⟩
      refine ⟨.non, rfl, .int 3000, rfl, (by show 2 ≤ sizeLine; decide), fun l1 hl1 => ?_⟩
      exact qn dst l1 _ (s.trans (.of_same (s1.trans (s2.trans (same_upd hl1))))) upd_same
    · refine ⟨.ref t, rfl, .non, rfl, (by show 2 ≤ sizeLine; decide), fun l1 hl1 => ?_⟩
      exact q a L t l1 _ rnd l (s.trans (.new hl1)) (same_upd hl1 _ _ e) upd_same
-- CUT
/-! ### the law -/
abbrev tbl85 (C : Cd) : List (Addr × Addr) := [(C.c_added, C.p_added), (C.c_times, C.p_times), (C.c_row_of, C.p_row_of), (C.c_row_of_sides, C.p_row_of_sides), (C.c_table_of, C.p_table_of), (C.c_stepped, C.p_stepped), (C.c_units, C.p_units), (C.c_moved, C.p_moved)]
theorem Trs.fs {d g c : Addr} {k : Int} {H H' : Hp} {ys : List V} {gs : List (List Int)} (h : Trs H ys gs) (D : Dk d g c k H) (f : Fs d g H H') : Trs H' ys gs := ⟨h.len, fun e => let ⟨a, u, h1, h2, h3⟩ := h.get e; ⟨a, u, h1, h2, f.tup D h3⟩⟩
theorem Trs.smR {H H' : Hp} {ys : List V} {gs : List (List Int)} (h : Trs H ys gs) (f : Sm H H') : Trs H' ys gs := ⟨h.len, fun e => let ⟨a, u, h1, h2, h3⟩ := h.get e; ⟨a, u, h1, h2, f.tup h3⟩⟩
theorem rnd_one {s : Nat → List Int} {a L b M : Nat} (h : Rnd s a L) (k : Rnd s b M) : a = b ∧ L = M := by
  have hp := h.pos
  have kp := k.pos
  have e : a + L = b + M := by
    rcases Nat.lt_trichotomy (a + L) (b + M) with z | z | z
    · exact absurd h.back.symm (k.dst a (a + L) (by omega) z)
    · exact z
    · exact absurd k.back.symm (h.dst b (b + M) (by omega) z)
  have e2 : s a = s b := by rw [← h.back, e, k.back]
  have : a = b := by
    rcases Nat.lt_trichotomy a b with z | z | z
    · exact absurd e2 (h.dst a b z (by omega))
    · exact z
    · exact absurd e2.symm (h.dst b a z (by omega))
  omega
theorem rnd_not {s : Nat → List Int} {a L : Nat} (h : Rnd s a L) (l : a + L ≤ 3000) (d : Dst s 3001) : False := d a (a + L) (by have := h.pos; omega) (by omega) h.back.symm
def manyD85 : PyData := .list [.none, .int 3000]
theorem many_gd : manyD85.showable = true ∧ manyD85.depth ≤ 64 ∧ manyD85.shown.length ≤ 1000 := by decide +kernel
def rndD (a L : Nat) : PyData := .list [.tuple [.int (a : Nat), .int (L : Nat)], .none]
theorem rnd_gd {a L : Nat} (h : a + L ≤ 3000) : ∃ n m, Gd n m (rndD a L) ∧ n ≤ 6000 ∧ m ≤ 64 := by
  have i1 : ∀ {i : Nat}, i ≤ 3000 → Gd 13 0 (.int (i : Nat)) := fun {i} hi => Gd.int (k := 12) (by decide) (by decide) (by show ((i : Nat) : Int).natAbs < 2 ^ 12; omega)
  have nn : Gd 13 1 .none := ⟨by simp [PyData.showable], by simp [PyData.leavesShort], by simp [PyData.weight], by simp [PyData.depth]⟩
  refine ⟨_, _, Gd.lst (GdAll.cons ((Gd.tup (GdAll.cons (i1 (by omega)) (GdAll.cons (i1 (by omega)) (GdAll.nil (n := 0))))) ) (GdAll.cons nn (GdAll.nil (n := 0)))), ?_, ?_⟩
  · decide
  · decide
set_option maxHeartbeats 1500000 in
theorem ok_law (T : Tx K mg A) (FB : ∀ base : Heap, (∀ p ∈ tbl85 C, GxR.TabB base mg p.1 p.2) → Tb K mg base A C) : LawOkT P w K mg A.f_law (tbl85 C) := by
  refine law_atT (k := 15) T.d_law sc_law ⟨rfl, by decide, by decide⟩ fun base t H a ns cdv hlen hm TB hH hS hr => ?_
  have B := FB base TB
  have tbs : Tbs C H := ⟨tab0 (hH (C.c_added, C.p_added) (by simp)), tab0 (hH (C.c_times, C.p_times) (by simp)), tab0 (hH (C.c_row_of, C.p_row_of) (by simp)), tab0 (hH (C.c_row_of_sides, C.p_row_of_sides) (by simp)), tab0 (hH (C.c_table_of, C.p_table_of) (by simp)), tab0 (hH (C.c_stepped, C.p_stepped) (by simp)), tab0 (hH (C.c_units, C.p_units) (by simp)), tab0 (hH (C.c_moved, C.p_moved) (by simp))⟩
  have G__law_deck : FnOk P w K mg base CX0 1 A.f__law_deck A.d__law_deck ["_law_script"] (spDeck K) := ok__law_deck T
  have G__law_next : FnOk P w K mg base CX0 1 A.f__law_next A.d__law_next ["_law_deck_here", "_law_many"] spNext := ok__law_next T
  have G__law_prime : FnOk P w K mg base CX0 2 A.f__law_prime A.d__law_prime ["_law_deck_here"] spPrm := ok__law_prime T
  have G__law_hold : FnOk P w K mg base CX0 2 A.f__law_hold A.d__law_hold ["_law_deck_here", "_law_posts"] spHold := ok__law_hold T
  have G__law_table : FnOk P w K mg base CX0 2 A.f__law_table A.d__law_table ["_law_deck_here", "_law_p", "_law_posts"] spTab := ok__law_table T
  have G__law_units : FnOk P w K mg base CX0 2 A.f__law_units A.d__law_units ["_law_p", "_law_hold_here", "_law_grid"] spUnits := ok__law_units T
  have G__law_stirred : FnOk P w K mg base CX0 2 A.f__law_stirred A.d__law_stirred ["_law_deck_here", "_law_p", "_law_posts", "_law_rows"] spStir := ok__law_stirred T
  have G__law_wires : FnOk P w K mg base CX0 2 A.f__law_wires A.d__law_wires ["_law_deck_here", "_law_posts"] spWires := ok__law_wires T
  have G__law_numbers : FnOk P w K mg base CX0 2 A.f__law_numbers A.d__law_numbers ["_law_deck_here", "_law_p", "_law_many"] spNums := ok__law_numbers T
  have G__law_led : FnOk P w K mg base CX0 3 A.f__law_led A.d__law_led ["_law_p", "_law_sides", "_law_grid", "_law_wires_here"] spLed := ok__law_led T
  have G__law_gone_round : FnOk P w K mg base CX0 1 A.f__law_gone_round A.d__law_gone_round ["_law_p", "_law_images", "_law_held"] spGone85 := ok__law_gone_round T
  have G__law_asked : FnOk P w K mg base CX0 15 A.f__law_asked A.d__law_asked ["_law_thing", "_law_sides", "_law_wires_here", "_law_held"] (spAsk85 C A) := ok__law_asked T B
  have hgd : callerA.guards = some [] := rfl
  obtain ⟨tkR, h_ROUNDS⟩ := T.v_ROUNDS
  have G_Thing___init__ : FnOk P w K mg base CX0 8 A.f_Thing___init__ A.d_Thing___init__ ["self", "p", "rows"] (spInit A.c_Thing C.p_row_of) := ok_Thing___init__ T B
  refine ⟨_, (pss_cons (ps_set (i := 1) sc_law.nd rfl (.inl rfl) (pe_call G__law_deck (hr.mono (by decide)) (by rfl) T.d__law_deck.g T.d__law_deck.F.kp T.d__law_deck.b .nil pass0 (pa_cons (pv 0) pa_nil)))
        (pss_cons (ps_set (i := 2) sc_law.nd rfl (.inl rfl) (pe_call G__law_prime (hr.mono (by decide)) (by rfl) T.d__law_prime.g T.d__law_prime.F.kp T.d__law_prime.b .nil pass0 (pa_cons (pv 1) pa_nil)))
        (pss_cons (ps_set (i := 3) sc_law.nd rfl (.inl rfl) (pe_call G__law_next (hr.mono (by decide)) (by rfl) T.d__law_next.g T.d__law_next.F.kp T.d__law_next.b .nil pass0 (pa_cons (pv 1) (pa_cons pe_int pa_nil))))
        (pss_cons (ps_set (i := 4) sc_law.nd rfl (.inl rfl) (pe_call G__law_hold (hr.mono (by decide)) (by rfl) T.d__law_hold.g T.d__law_hold.F.kp T.d__law_hold.b .nil pass0 (pa_cons (pv 1) (pa_cons (pv 3) pa_nil))))
        (pss_cons (ps_set (i := 5) sc_law.nd rfl (.inl rfl) (pe_call G__law_table (hr.mono (by decide)) (by rfl) T.d__law_table.g T.d__law_table.F.kp T.d__law_table.b .nil pass0 (pa_cons (pv 1) (pa_cons (pv 2) (pa_cons (pv 3) pa_nil)))))
        (pss_cons (ps_set (i := 6) sc_law.nd rfl (.inl rfl) (pe_make T.mk_Thing G_Thing___init__ (hr.mono (by decide)) (by rfl) T.g_Thing T.d_Thing___init__.b .nil pass0 (pa_cons (pv 2) (pa_cons (pe_call G__law_stirred (hr.mono (by decide)) (by rfl) T.d__law_stirred.g T.d__law_stirred.F.kp T.d__law_stirred.b .nil pass0 (pa_cons (pv 1) (pa_cons (pv 2) (pa_cons (pv 3) (pa_cons (pe_call G__law_units (hr.mono (by decide)) (by rfl) T.d__law_units.g T.d__law_units.F.kp T.d__law_units.b .nil pass0 (pa_cons (pv 2) (pa_cons (pv 4) (pa_cons (pv 5) pa_nil)))) pa_nil))))) pa_nil))))
        (pss_cons (ps_set (i := 7) sc_law.nd rfl (.inl rfl) (pe_call G__law_wires (hr.mono (by decide)) (by rfl) T.d__law_wires.g T.d__law_wires.F.kp T.d__law_wires.b .nil pass0 (pa_cons (pv 1) (pa_cons (pv 3) pa_nil))))
        (pss_cons (ps_set (i := 8) sc_law.nd rfl (.inl rfl) (pe_call G__law_led (hr.mono (by decide)) (by rfl) T.d__law_led.g T.d__law_led.F.kp T.d__law_led.b .nil pass0 (pa_cons (pv 2) (pa_cons (pv 4) (pa_cons (pv 5) (pa_cons (pv 7) pa_nil))))))
        (pss_cons (ps_for PassesOwn.never rfl (pi_list (pe_lst (pa_cons (pe_call G__law_numbers (hr.mono (by decide)) (by rfl) T.d__law_numbers.g T.d__law_numbers.F.kp T.d__law_numbers.b .nil pass0 (pa_cons (pv 1) (pa_cons (pv 2) (pa_cons (pv 3) pa_nil)))) (pa_cons (pe_op Gx.op_repA (pe_tup (pa_cons pe_int pa_nil)) (pv 3)) (pa_cons (pe_call G__law_numbers (hr.mono (by decide)) (by rfl) T.d__law_numbers.g T.d__law_numbers.F.kp T.d__law_numbers.b .nil pass0 (pa_cons (pv 1) (pa_cons (pv 2) (pa_cons (pv 3) pa_nil)))) pa_nil))))) (pg_name (i := 9) sc_law.nd rfl (.inl rfl))
        (pss_cons (ps_set (i := 10) sc_law.nd rfl (.inl rfl) (pe_call G__law_gone_round (hr.mono (by decide)) (by rfl) T.d__law_gone_round.g T.d__law_gone_round.F.kp T.d__law_gone_round.b .nil pass0 (pa_cons (pv 2) (pa_cons (pv 8) (pa_cons (pv 9) pa_nil)))))
        (pss_cons (ps_set (i := 11) sc_law.nd rfl (.inl rfl) (pe_lst (pa_cons (pv 10) (pa_cons (pe_ix ix_list (pe_lst (pa_cons pe_non (pa_cons pe_int pa_nil))) (pe_callTy call_int1 (by rfl) T.b_int PyProof.Rows.boot_int (pa_cons (pe_cmpR op_isN (pv 10) pe_non (nomark _)) pa_nil)) (fun _ _ => rfl)) pa_nil))))
        (pss_one (ps_for PassesOwn.never rfl (pi_range1 (by rfl) T.b_range (pa_cons pe_int pa_nil)) (pg_name (i := 12) sc_law.nd rfl (.inl rfl))
        (pss_one (ps_if (pt_cmpR op_ne (pe_callB (call_reprQ hm rfl (ru80 hr)) (by rfl) T.b_repr PyProof.Rows.boot_repr (pa_cons (pe_call G__law_asked hr (by rfl) T.d__law_asked.g T.d__law_asked.F.kp T.d__law_asked.b .nil pass0 (pa_cons (pv 6) (pa_cons (pv 4) (pa_cons (pv 7) (pa_cons (pv 9) pa_nil))))) pa_nil)) (pe_callB (call_reprQ hm rfl (ru80 hr)) (by rfl) T.b_repr PyProof.Rows.boot_repr (pa_cons (pv 11) pa_nil)) (nomark _))
        (pss_one (ps_ret pe_bl))
        pss_nil)))))))
        (pss_one (ps_ret (pe_cmpR op_eq (pe_glob (v := .int 3000) (by rfl) h_ROUNDS ⟨_, rfl⟩) pe_int (nomark _))))))))))))), ?_⟩
  refine ⟨.ref a, rfl, a, ns, rfl, hS, hlen, fun d g c H1 s0 nd ng nc D1 => ?_⟩
  have tbs1 := tbs.sm (.of_same s0)
  refine ⟨.ref d, rfl, d, g, c, _, rfl, D1, by omega, fun p H2 hp D2 f2 => ?_⟩
  obtain ⟨p2, p13⟩ := prs_bd p hp
  have p0 : 0 < p := by omega
  have p1 : 1 < p := by omega
  refine ⟨.ref d, rfl, d, g, c, _, 6, rfl, by decide, by decide, D2, by omega, fun x1 H5 x10 x11 D5 f5 => ?_⟩
  obtain ⟨m, rfl⟩ := Int.eq_ofNat_of_zero_le x10
  have hm10 : m ≤ 10 := by omega
  -- the hold, the table
  refine ⟨.ref d, rfl, .int (m : Nat), rfl, d, g, c, _, m, rfl, D5, by omega, hm10, fun th hs H6 hb hsl eth D6 f6 => ?_⟩
  refine ⟨.ref d, rfl, .int p, rfl, .int (m : Nat), rfl, d, g, c, _, p, m, rfl, D6, by omega, p2, p13, hm10, fun tt ys gs H7 ett htr gl gok gsy D7 f7 => ?_⟩
  subst hsl
  have hd7 : HdAt H7 th hs := HdAt.fr ⟨eth, hb, hm10⟩ D6 f7
  have tb7 : TbAt p hs.length H7 tt gs := ⟨⟨ys, ett, htr⟩, gl, gok, gsy⟩
  have tbs7 := (((tbs1.fs D1 (.of_fr f2)).fs D2 (.of_fr f5)).fs D5 (.of_fr f6)).fs D6 (.of_fr f7)
  refine ⟨.int p, rfl, .ref d, rfl, .int p, rfl, .int (hs.length : Nat), rfl, .int p, rfl, .ref th, rfl, .ref tt, rfl, p, th, tt, hs, gs, rfl, p1, p13, hd7, tb7, fun tu xs H8 s8 eu hu => ?_⟩
  have D8 := D7.same s8
  have ul := Lin.units_len (p := p) (hs := hs) (gs := gs)
  have hul := hu.len
  refine ⟨d, g, c, _, p, hs.length, tu, .t, xs, _, rfl, D8, by omega, hp, by omega, eu, hu, by omega, fun tr rsx ss H9 f9 D9 er hss ssl sp => ?_⟩
  have hsl := hss.len
  have hd9 := (hd7.same s8).fr D8 f9
  have tb9 := (tb7.same s8).fr D8 f9
  have tbs9 := (tbs7.sm (.of_same s8)).fs D8 (.of_fr f9)
  -- the thing
  refine fun x dx nx ndx nex => ?_
  have mk := make_same (c := A.c_Thing) nx ndx nex
  have nil2 : rsx = [] → hs.length = 0 := fun e => by
    rw [e] at hsl
    simp at hsl
    omega
  have fair : ∀ r ∈ ss, ∀ s ∈ ss, metR p r s = 0 := units_rw_fair p1 gsy (fun r hr => (hss.fit r hr).2) fun r hr => span_mem sp hr
  have cnt : ∀ L, PL p (2 * hs.length) (ss.map flatR) L → L.length = hs.length := fun L pl => Lin.units_plain (gs := gs) p1 (inv_all hp) pl sp
  refine ⟨x, dx, p, hs.length, tr, rsx, ss, rfl, hp, hm10, upd_same, ⟨mk _ _ er, hss.sm (.of_same mk), nil2⟩, by omega, fair, cnt, (Sm.of_same mk).tb _ tbs9.t3, fun s1 L1 H10 f10 th10 es1 pl1 up1 => ⟨rfl, ?_⟩⟩
  have sm10 : Sm H9 H10 := make_sm nx ndx f10
  have cl1 := cnt L1 pl1
  have sl1 : s1.length = hs.length := by
    have := congrArg List.length es1
    rw [List.length_map, List.length_map] at this
    omega
  have sp1 : Span p s1 (Lin.unitsP p hs gs) := (pl_span es1 pl1).trans sp
  have D10 := D9.sm sm10
  -- wires
  refine ⟨.ref d, rfl, .int (hs.length : Nat), rfl, d, g, c, _, hs.length, rfl, D10, by omega, hm10, fun tw ws H11 wr11 D11 f11 => ?_⟩
  have R11 : Rig A.c_Thing C H11 x th tt tw p hs gs s1 ws := ⟨(hd9.sm sm10).fs D10 (.of_fr f11), (tb9.sm sm10).fs D10 (.of_fr f11), th10.fs D10 (.of_fr f11), wr11, (tbs9.sm sm10).fs D10 (.of_fr f11), hp, by omega, sp1⟩
  have D11' : Dk d g c 2000 H11 := D11.mono (by omega)
  clear D11
  simp only [L2.start, List.set_cons_succ, List.set_cons_zero, List.map_cons, List.map_nil, List.cons_append, List.nil_append, List.replicate_succ, List.replicate_zero, List.length_cons, List.length_nil, Nat.zero_add, Nat.reduceAdd, Nat.reduceSub]
  refine ⟨.int p, rfl, .ref th, rfl, .ref tt, rfl, .ref tw, rfl, p, th, tt, tw, hs, gs, ws, rfl, p1, p13, R11.hd, R11.tb, R11.wr, fun ti xi H12 s12 nti ei tri => ?_⟩
  have R12 := R11.sm (.of_same s12)
  have D12 := D11'.same s12
  simp only [List.set_cons_succ, List.set_cons_zero]
  refine ⟨.ref d, rfl, .int p, rfl, .int (hs.length : Nat), rfl, d, g, c, _, p, _, rfl, D12, by omega, p2, p13, by omega, by omega, fun tn n0 H13 rg0 n0l en0 D13 f13 => ?_⟩
  have R13 := R12.fs D12 (.of_fr f13)
  refine ⟨(by show 1 ≤ sizeLine; decide), fun q1 hq1 => ⟨.int (hs.length : Nat), rfl, rep_read upd_same (by omega) (by omega) fun tz H14 s14 ez => ?_⟩⟩
  have s1314 := (same_upd (o := .tup [.int 0]) hq1).trans s14
  have R14 := R13.sm (.of_same s1314)
  have D14 := D13.same s1314
  refine ⟨.ref d, rfl, .int p, rfl, .int (hs.length : Nat), rfl, d, g, c, _, p, _, rfl, D14, by omega, p2, p13, by omega, by omega, fun to n1 H15 rg1 n1l en1 D15 f15 => ?_⟩
  rw [Int.toNat_natCast] at n0l n1l ez
  have g0 : Gn p hs.length n0 := ⟨n0l, rg0⟩
  have g1 : Gn p hs.length n1 := ⟨n1l, rg1⟩
  have gz : Gn p hs.length (List.replicate hs.length 0) := ⟨List.length_replicate, fun u hu => by rw [(List.mem_replicate.mp hu).2]; omega⟩
  have ez' : H14 tz = some (.tup ((List.replicate hs.length (0 : Int)).map V.int)) := by rw [ez, List.map_replicate]
  have R15 := R14.fs D14 (.of_fr f15)
  refine ⟨(by show 3 ≤ sizeLine; decide), fun l hl => ?_⟩
  have s16 := same_upd (o := .lst [.ref tn, .ref tz, .ref to]) hl
  have el : upd H15 l (.lst [.ref tn, .ref tz, .ref to]) l = some (.lst [.ref tn, .ref tz, .ref to]) := upd_same
  generalize upd H15 l (.lst [.ref tn, .ref tz, .ref to]) = H16 at s16 el ⊢
  have R16 := R15.sm (.of_same s16)
  have f1216 : Fr d g H12 H16 := ((f13.trans (.of_same s1314)).trans f15).trans (.of_same s16)
  have nti' := D11'.nd nti
  have ei16 := f1216 ti _ nti'.1 nti'.2.1 ei
  have tr16 := tri.fs D12 (.of_fr f1216)
  have en16 : H16 tn = some (.tup (n0.map V.int)) := s16 _ _ (f15.tup D14 (s1314 _ _ en0))
  have ez16 := s16 _ _ (f15.tup D14 ez')
  have eo16 := s16 _ _ en1
  have ru := Ru.one (p := p) (hs := hs) (gs := gs) (ws := ws) p1 R11.wr.len
  have fg : ∀ v, Gn p hs.length v → Gn p hs.length (stepF p hs gs ws v) := fun v h => step_gn p0 R11.wr.len h
  have each : ∀ {i : Nat} {y : V}, [V.ref tn, .ref tz, .ref to][i]? = some y → ∃ (b : Addr) (v : List Int), y = .ref b ∧ H16 b = some (.tup (v.map V.int)) ∧ Gn p hs.length v := by
    intro i y h
    match i, h with
    | 0, h => cases h; exact ⟨_, _, rfl, en16, g0⟩
    | 1, h => cases h; exact ⟨_, _, rfl, ez16, gz⟩
    | 2, h => cases h; exact ⟨_, _, rfl, eo16, g1⟩
    | i + 3, h => simp at h
  refine ⟨l, rfl, ⟨_, SqL.of el⟩, for_it (walk_list (xs := [.ref tn, .ref tz, .ref to])) (fun i σ H' => ∃ v9 v10 v11 v12, σ = [some (.ref a), some (.ref d), some (.int p), some (.int (hs.length : Nat)), some (.ref th), some (.ref tt), some (.ref x), some (.ref tw), some (.ref ti), v9, v10, v11, v12] ∧ Sm H16 H') ⟨_, _, _, _, rfl, .refl _⟩ (fun i σ H' _ h => by obtain ⟨_, _, _, _, _, s⟩ := h; exact SqL.of (s.lst el)) ?_ ?_⟩
  · rintro i y σ H0 H17 hi ⟨v9, v10, v11, v12, rfl, s17⟩ ⟨rfl, hy⟩
    obtain ⟨b, v, rfl, eb, gv⟩ := each hy
    have R17 := R16.sm s17
    refine ⟨.int p, rfl, .ref ti, rfl, .ref b, rfl, p, hs.length, ti, b, xi, ruleM p hs gs ws, stepF p hs gs ws, v, rfl, p1, p13, hm10, s17.lst ei16, tr16.smR s17, ru, fg, s17.tup eb, gv, fun dst H18 s18 => ?_, fun A0 L0 t18 H18 rnd le s18 e18 => ?_⟩
    · refine ⟨.non, rfl, (by show 2 ≤ sizeLine; decide), fun q2 hq2 => ?_⟩
      have e2 : upd H18 q2 (.lst [.non, .int 3000]) q2 = some (.lst [.non, .int 3000]) := upd_same
      have s2 := same_upd (o := .lst [.non, .int 3000]) hq2
      generalize upd H18 q2 (.lst [.non, .int 3000]) = H19 at e2 s2 ⊢
      refine ⟨.non, rfl, rfl, .inr ⟨_, rfl, q2, _, _, (.int 3000), rfl, rfl, SqL.of e2, rfl, (by show 2 ≤ sizeLine; decide), fun w hw => ?_⟩⟩
      have s3 := same_upd (o := .lst [.non, .int 3000]) hw
      have e3 : upd H19 w (.lst [.non, .int 3000]) w = some (.lst [.non, .int 3000]) := upd_same
      generalize upd H19 w (.lst [.non, .int 3000]) = H20 at s3 e3 ⊢
      have sm20 : Sm H16 H20 := s17.trans (.of_same (s18.trans (s2.trans s3)))
      refine ⟨2, rfl, by decide, by decide, for_range (n := 2) (fun i σ H' => ∃ v12, σ = [some (.ref a), some (.ref d), some (.int p), some (.int (hs.length : Nat)), some (.ref th), some (.ref tt), some (.ref x), some (.ref tw), some (.ref ti), some (.ref b), some (V.non), some (.ref w), v12] ∧ Sm H20 H') ⟨_, rfl, .refl _⟩ ?_ ?_⟩
      · rintro k2 σ H21 hk2 ⟨v12', rfl, s21⟩
        have R21 := R16.sm (sm20.trans s21)
        have eb21 := (sm20.trans s21).tup eb
        refine ⟨.ref x, rfl, .ref th, rfl, .ref tw, rfl, .ref b, rfl, x, th, tt, tw, b, p, hs, gs, s1, ws, v, rfl, R21, eb21, gv, fun _ l22 H22 s22 e22 => ?_, fun A0 L0 _ _ _ rnd le _ _ _ => (rnd_not rnd le dst).elim⟩
        have gd := many_gd
        have lt : manyD85.shown.length ≤ sizeLine := Nat.le_trans gd.2.2 (by decide)
        refine ⟨.ref l22, manyD85, rfl, .lst e22 (.cons .non (.cons (.int _) .nil)), gd.1, gd.2.1, lt, .ref w, rfl, .ref w, manyD85, rfl, .lst (s22.lst (s21.lst e3)) (.cons .non (.cons (.int _) .nil)), gd.1, gd.2.1, lt, rfl, false, by rw [decide_eq_true rfl]; rfl, ?_⟩
        exact ⟨_, rfl, s21.trans s22⟩
      · rintro σ H21 ⟨v12', rfl, s21⟩
        exact ⟨_, _, _, _, rfl, sm20.trans s21⟩
    · refine ⟨.ref t18, rfl, (by show 2 ≤ sizeLine; decide), fun q2 hq2 => ?_⟩
      have e2 : upd H18 q2 (.lst [.non, .int 3000]) q2 = some (.lst [.non, .int 3000]) := upd_same
      have s2 := same_upd (o := .lst [.non, .int 3000]) hq2
      generalize upd H18 q2 (.lst [.non, .int 3000]) = H19 at e2 s2 ⊢
      refine ⟨(.ref t18), rfl, rfl, .inr ⟨_, rfl, q2, _, _, .non, rfl, rfl, SqL.of e2, rfl, (by show 2 ≤ sizeLine; decide), fun w hw => ?_⟩⟩
      have s3 := same_upd (o := .lst [.ref t18, .non]) hw
      have e3 : upd H19 w (.lst [.ref t18, .non]) w = some (.lst [.ref t18, .non]) := upd_same
      generalize upd H19 w (.lst [.ref t18, .non]) = H20 at s3 e3 ⊢
      have sm20 : Sm H16 H20 := s17.trans (.of_same (s18.trans (s2.trans s3)))
      refine ⟨2, rfl, by decide, by decide, for_range (n := 2) (fun i σ H' => ∃ v12, σ = [some (.ref a), some (.ref d), some (.int p), some (.int (hs.length : Nat)), some (.ref th), some (.ref tt), some (.ref x), some (.ref tw), some (.ref ti), some (.ref b), some (.ref t18), some (.ref w), v12] ∧ Sm H20 H') ⟨_, rfl, .refl _⟩ ?_ ?_⟩
      · rintro k2 σ H21 hk2 ⟨v12', rfl, s21⟩
        have R21 := R16.sm (sm20.trans s21)
        have eb21 := (sm20.trans s21).tup eb
        refine ⟨.ref x, rfl, .ref th, rfl, .ref tw, rfl, .ref b, rfl, x, th, tt, tw, b, p, hs, gs, s1, ws, v, rfl, R21, eb21, gv, fun dst => (rnd_not rnd le dst).elim, fun A1 L1 t22 l22 H22 rnd1 le1 s22 e22 el22 => ?_⟩
        obtain ⟨rfl, rfl⟩ := rnd_one rnd rnd1
        obtain ⟨gn', gm, gd, g6, g64⟩ := rnd_gd le
        have lt := gd.shown (by omega)
        have dp := Nat.le_trans gd.2.2.2 g64
        refine ⟨.ref l22, rndD A0 L0, rfl, .lst el22 (.cons (.tup e22 (.cons (.int _) (.cons (.int _) .nil))) (.cons .non .nil)), gd.1, dp, lt, .ref w, rfl, .ref w, rndD A0 L0, rfl, .lst (s22.lst (s21.lst e3)) (.cons (.tup (s22.tup (s21.tup (s3 _ _ (s2 _ _ e18)))) (.cons (.int _) (.cons (.int _) .nil))) (.cons .non .nil)), gd.1, dp, lt, rfl, false, by rw [decide_eq_true rfl]; rfl, ?_⟩
        exact ⟨_, rfl, s21.trans s22⟩
      · rintro σ H21 ⟨v12', rfl, s21⟩
        exact ⟨_, _, _, _, rfl, sm20.trans s21⟩
  · rintro σ H17 ⟨v9, v10, v11, v12, rfl, s17⟩
    exact ⟨rfl, rfl⟩
end
-- CUT
/-! what the top has written -/
set_option maxHeartbeats 4000000 in
theorem all_mk {l : PySem.W.OpenLaw} {w : World} {K : PySem.W.Frag} {h : Heap} {mg : Str → Option Value} {fa : Addr} (X : K.In h) (G : h.Ns mainGlobals mg) (hfa : mg "law" = some (.ref fa)) (own : OwnTabs ["added", "times", "row_of", "row_of_sides", "table_of", "stepped", "units", "moved"] mg h)
    {f_is_whole : Addr} {od_is_whole an_is_whole : Option Addr} {sl_is_whole : Array (Option Value)} {oc_is_whole kV_is_whole dc_is_whole pm_is_whole cd_is_whole ct_is_whole : Value}
    {f_is_prime : Addr} {od_is_prime an_is_prime : Option Addr} {sl_is_prime : Array (Option Value)} {oc_is_prime kV_is_prime dc_is_prime pm_is_prime cd_is_prime ct_is_prime : Value}
    {f_is_round : Addr} {od_is_round an_is_round : Option Addr} {sl_is_round : Array (Option Value)} {oc_is_round kV_is_round dc_is_round pm_is_round cd_is_round ct_is_round : Value}
    {f_inverse : Addr} {od_inverse an_inverse : Option Addr} {sl_inverse : Array (Option Value)} {oc_inverse kV_inverse dc_inverse pm_inverse cd_inverse ct_inverse : Value}
    {f_is_pair : Addr} {od_is_pair an_is_pair : Option Addr} {sl_is_pair : Array (Option Value)} {oc_is_pair kV_is_pair dc_is_pair pm_is_pair cd_is_pair ct_is_pair : Value}
    {f_is_row : Addr} {od_is_row an_is_row : Option Addr} {sl_is_row : Array (Option Value)} {oc_is_row kV_is_row dc_is_row pm_is_row cd_is_row ct_is_row : Value}
    {f_nought : Addr} {od_nought an_nought : Option Addr} {sl_nought : Array (Option Value)} {oc_nought kV_nought dc_nought pm_nought cd_nought ct_nought : Value}
    {f_added : Addr} {od_added an_added : Option Addr} {sl_added : Array (Option Value)} {oc_added kV_added dc_added pm_added ct_added : Value}
    {q_added p_added : Addr} {e_added : Value} {dd_added : Option Addr} {vs_added : Array Value} {us_added : Array (Option Value)}
    {f_times : Addr} {od_times an_times : Option Addr} {sl_times : Array (Option Value)} {oc_times kV_times dc_times pm_times ct_times : Value}
    {q_times p_times : Addr} {e_times : Value} {dd_times : Option Addr} {vs_times : Array Value} {us_times : Array (Option Value)}
    {f_meet : Addr} {od_meet an_meet : Option Addr} {sl_meet : Array (Option Value)} {oc_meet kV_meet dc_meet pm_meet cd_meet ct_meet : Value}
    {f_flat_of : Addr} {od_flat_of an_flat_of : Option Addr} {sl_flat_of : Array (Option Value)} {oc_flat_of kV_flat_of dc_flat_of pm_flat_of cd_flat_of ct_flat_of : Value}
    {f_row_of : Addr} {od_row_of an_row_of : Option Addr} {sl_row_of : Array (Option Value)} {oc_row_of kV_row_of dc_row_of pm_row_of ct_row_of : Value}
    {q_row_of p_row_of : Addr} {e_row_of : Value} {dd_row_of : Option Addr} {vs_row_of : Array Value} {us_row_of : Array (Option Value)}
    {f_first_place : Addr} {od_first_place an_first_place : Option Addr} {sl_first_place : Array (Option Value)} {oc_first_place kV_first_place dc_first_place pm_first_place cd_first_place ct_first_place : Value}
    {f_lessened : Addr} {od_lessened an_lessened : Option Addr} {sl_lessened : Array (Option Value)} {oc_lessened kV_lessened dc_lessened pm_lessened cd_lessened ct_lessened : Value}
    {f_cleared : Addr} {od_cleared an_cleared : Option Addr} {sl_cleared : Array (Option Value)} {oc_cleared kV_cleared dc_cleared pm_cleared cd_cleared ct_cleared : Value}
    {f_leads_of : Addr} {od_leads_of an_leads_of : Option Addr} {sl_leads_of : Array (Option Value)} {oc_leads_of kV_leads_of dc_leads_of pm_leads_of cd_leads_of ct_leads_of : Value}
    {f_row_leads : Addr} {od_row_leads an_row_leads : Option Addr} {sl_row_leads : Array (Option Value)} {oc_row_leads kV_row_leads dc_row_leads pm_row_leads cd_row_leads ct_row_leads : Value}
    {f_plain : Addr} {od_plain an_plain : Option Addr} {sl_plain : Array (Option Value)} {oc_plain kV_plain dc_plain pm_plain cd_plain ct_plain : Value}
    {f_together : Addr} {od_together an_together : Option Addr} {sl_together : Array (Option Value)} {oc_together kV_together dc_together pm_together cd_together ct_together : Value}
    {f_sided : Addr} {od_sided an_sided : Option Addr} {sl_sided : Array (Option Value)} {oc_sided kV_sided dc_sided pm_sided cd_sided ct_sided : Value}
    {f_row_of_sides : Addr} {od_row_of_sides an_row_of_sides : Option Addr} {sl_row_of_sides : Array (Option Value)} {oc_row_of_sides kV_row_of_sides dc_row_of_sides pm_row_of_sides ct_row_of_sides : Value}
    {q_row_of_sides p_row_of_sides : Addr} {e_row_of_sides : Value} {dd_row_of_sides : Option Addr} {vs_row_of_sides : Array Value} {us_row_of_sides : Array (Option Value)}
    {f_side_leads : Addr} {od_side_leads an_side_leads : Option Addr} {sl_side_leads : Array (Option Value)} {oc_side_leads kV_side_leads dc_side_leads pm_side_leads cd_side_leads ct_side_leads : Value}
    {f_table_of : Addr} {od_table_of an_table_of : Option Addr} {sl_table_of : Array (Option Value)} {oc_table_of kV_table_of dc_table_of pm_table_of ct_table_of : Value}
    {q_table_of p_table_of : Addr} {e_table_of : Value} {dd_table_of : Option Addr} {vs_table_of : Array Value} {us_table_of : Array (Option Value)}
    {f_rows_by_table : Addr} {od_rows_by_table an_rows_by_table : Option Addr} {sl_rows_by_table : Array (Option Value)} {oc_rows_by_table kV_rows_by_table dc_rows_by_table pm_rows_by_table cd_rows_by_table ct_rows_by_table : Value}
    {f_still_rows : Addr} {od_still_rows an_still_rows : Option Addr} {sl_still_rows : Array (Option Value)} {oc_still_rows kV_still_rows dc_still_rows pm_still_rows cd_still_rows ct_still_rows : Value}
    {f_still_hands : Addr} {od_still_hands an_still_hands : Option Addr} {sl_still_hands : Array (Option Value)} {oc_still_hands kV_still_hands dc_still_hands pm_still_hands cd_still_hands ct_still_hands : Value}
    {f_table : Addr} {od_table an_table : Option Addr} {sl_table : Array (Option Value)} {oc_table kV_table dc_table pm_table cd_table ct_table : Value}
    {f_read : Addr} {od_read an_read : Option Addr} {sl_read : Array (Option Value)} {oc_read kV_read dc_read pm_read cd_read ct_read : Value}
    {f_stepped : Addr} {od_stepped an_stepped : Option Addr} {sl_stepped : Array (Option Value)} {oc_stepped kV_stepped dc_stepped pm_stepped ct_stepped : Value}
    {q_stepped p_stepped : Addr} {e_stepped : Value} {dd_stepped : Option Addr} {vs_stepped : Array Value} {us_stepped : Array (Option Value)}
    {f_units : Addr} {od_units an_units : Option Addr} {sl_units : Array (Option Value)} {oc_units kV_units dc_units pm_units ct_units : Value}
    {q_units p_units : Addr} {e_units : Value} {dd_units : Option Addr} {vs_units : Array Value} {us_units : Array (Option Value)}
    {f_moved : Addr} {od_moved an_moved : Option Addr} {sl_moved : Array (Option Value)} {oc_moved kV_moved dc_moved pm_moved ct_moved : Value}
    {q_moved p_moved : Addr} {e_moved : Value} {dd_moved : Option Addr} {vs_moved : Array Value} {us_moved : Array (Option Value)}
    {f_rule_of : Addr} {od_rule_of an_rule_of : Option Addr} {sl_rule_of : Array (Option Value)} {oc_rule_of kV_rule_of dc_rule_of pm_rule_of cd_rule_of ct_rule_of : Value}
    {f_round_of : Addr} {od_round_of an_round_of : Option Addr} {sl_round_of : Array (Option Value)} {oc_round_of kV_round_of dc_round_of pm_round_of cd_round_of ct_round_of : Value}
    {f_posts_of : Addr} {od_posts_of an_posts_of : Option Addr} {sl_posts_of : Array (Option Value)} {oc_posts_of kV_posts_of dc_posts_of pm_posts_of cd_posts_of ct_posts_of : Value}
    {f_are_rows : Addr} {od_are_rows an_are_rows : Option Addr} {sl_are_rows : Array (Option Value)} {oc_are_rows kV_are_rows dc_are_rows pm_are_rows cd_are_rows ct_are_rows : Value}
    {f_first_unfair : Addr} {od_first_unfair an_first_unfair : Option Addr} {sl_first_unfair : Array (Option Value)} {oc_first_unfair kV_first_unfair dc_first_unfair pm_first_unfair cd_first_unfair ct_first_unfair : Value}
    {f__law_deck : Addr} {od__law_deck an__law_deck : Option Addr} {sl__law_deck : Array (Option Value)} {oc__law_deck kV__law_deck dc__law_deck pm__law_deck cd__law_deck ct__law_deck : Value}
    {f__law_next : Addr} {od__law_next an__law_next : Option Addr} {sl__law_next : Array (Option Value)} {oc__law_next kV__law_next dc__law_next pm__law_next cd__law_next ct__law_next : Value}
    {f__law_prime : Addr} {od__law_prime an__law_prime : Option Addr} {sl__law_prime : Array (Option Value)} {oc__law_prime kV__law_prime dc__law_prime pm__law_prime cd__law_prime ct__law_prime : Value}
    {f__law_numbers : Addr} {od__law_numbers an__law_numbers : Option Addr} {sl__law_numbers : Array (Option Value)} {oc__law_numbers kV__law_numbers dc__law_numbers pm__law_numbers cd__law_numbers ct__law_numbers : Value}
    {f__law_hold : Addr} {od__law_hold an__law_hold : Option Addr} {sl__law_hold : Array (Option Value)} {oc__law_hold kV__law_hold dc__law_hold pm__law_hold cd__law_hold ct__law_hold : Value}
    {f__law_table : Addr} {od__law_table an__law_table : Option Addr} {sl__law_table : Array (Option Value)} {oc__law_table kV__law_table dc__law_table pm__law_table cd__law_table ct__law_table : Value}
    {f__law_stand : Addr} {od__law_stand an__law_stand : Option Addr} {sl__law_stand : Array (Option Value)} {oc__law_stand kV__law_stand dc__law_stand pm__law_stand cd__law_stand ct__law_stand : Value}
    {f__law_units : Addr} {od__law_units an__law_units : Option Addr} {sl__law_units : Array (Option Value)} {oc__law_units kV__law_units dc__law_units pm__law_units cd__law_units ct__law_units : Value}
    {f__law_added : Addr} {od__law_added an__law_added : Option Addr} {sl__law_added : Array (Option Value)} {oc__law_added kV__law_added dc__law_added pm__law_added cd__law_added ct__law_added : Value}
    {f__law_times : Addr} {od__law_times an__law_times : Option Addr} {sl__law_times : Array (Option Value)} {oc__law_times kV__law_times dc__law_times pm__law_times cd__law_times ct__law_times : Value}
    {f__law_stirred : Addr} {od__law_stirred an__law_stirred : Option Addr} {sl__law_stirred : Array (Option Value)} {oc__law_stirred kV__law_stirred dc__law_stirred pm__law_stirred cd__law_stirred ct__law_stirred : Value}
    {f__law_step : Addr} {od__law_step an__law_step : Option Addr} {sl__law_step : Array (Option Value)} {oc__law_step kV__law_step dc__law_step pm__law_step cd__law_step ct__law_step : Value}
    {f__law_wires : Addr} {od__law_wires an__law_wires : Option Addr} {sl__law_wires : Array (Option Value)} {oc__law_wires kV__law_wires dc__law_wires pm__law_wires cd__law_wires ct__law_wires : Value}
    {f__law_led : Addr} {od__law_led an__law_led : Option Addr} {sl__law_led : Array (Option Value)} {oc__law_led kV__law_led dc__law_led pm__law_led cd__law_led ct__law_led : Value}
    {f__law_gone_round : Addr} {od__law_gone_round an__law_gone_round : Option Addr} {sl__law_gone_round : Array (Option Value)} {oc__law_gone_round kV__law_gone_round dc__law_gone_round pm__law_gone_round cd__law_gone_round ct__law_gone_round : Value}
    {f__law_asked : Addr} {od__law_asked an__law_asked : Option Addr} {sl__law_asked : Array (Option Value)} {oc__law_asked kV__law_asked dc__law_asked pm__law_asked cd__law_asked ct__law_asked : Value}
    {f_law : Addr} {od_law an_law : Option Addr} {sl_law : Array (Option Value)} {oc_law kV_law dc_law pm_law cd_law ct_law : Value}
    {c_PRIMES : Addr} {od_PRIMES : Option Addr} {n_PRIMES : Nat} {sl_PRIMES : Array (Option Value)} {t_PRIMES0 t_PRIMES1 t_PRIMES2 t_PRIMES3 t_PRIMES4 t_PRIMES5 : Tok}
    {t_POSTS : Tok}
    {t_ROUNDS : Tok}
    {c_Thing : Addr}
    {f_Thing___init__ : Addr} {od_Thing___init__ an_Thing___init__ : Option Addr} {sl_Thing___init__ : Array (Option Value)} {oc_Thing___init__ kV_Thing___init__ dc_Thing___init__ pm_Thing___init__ cd_Thing___init__ ct_Thing___init__ : Value}
    {f_Thing_p : Addr} {od_Thing_p an_Thing_p : Option Addr} {sl_Thing_p : Array (Option Value)} {oc_Thing_p kV_Thing_p dc_Thing_p pm_Thing_p cd_Thing_p ct_Thing_p : Value}
    {f_Thing_rows : Addr} {od_Thing_rows an_Thing_rows : Option Addr} {sl_Thing_rows : Array (Option Value)} {oc_Thing_rows kV_Thing_rows dc_Thing_rows pm_Thing_rows cd_Thing_rows ct_Thing_rows : Value}
    {c_PostError : Addr}
    {c_BadThing : Addr}
    {c_BadPost : Addr}
    {c_BadNumber : Addr}
    {c_Still : Addr}
    {c_TooMany : Addr}
    {f_TooMany___init__ : Addr} {od_TooMany___init__ an_TooMany___init__ : Option Addr} {sl_TooMany___init__ : Array (Option Value)} {oc_TooMany___init__ kV_TooMany___init__ dc_TooMany___init__ pm_TooMany___init__ cd_TooMany___init__ ct_TooMany___init__ : Value}
    {nm_TooMany q_TooMany : Str} {N_TooMany : Addr} {bs_TooMany : List Value} {sn_TooMany : List Str} {su_TooMany : List Value} {ab_TooMany : Bool} {co_TooMany : Option Bool} {dd_TooMany : Option Addr} {y0_TooMany y1_TooMany y2_TooMany y3_TooMany y5_TooMany : Option Value}
    (a_is_whole : PySem.W.nsIn K mainGlobals "is_whole" = some (some (.ref f_is_whole))) (l_is_whole : K.lookup f_is_whole = some ⟨oc_is_whole, od_is_whole, .func (PySem.W.fnOf "is_whole" "is_whole" (defArgs s_is_whole) (defBody s_is_whole) (defScope s_is_whole) .none kV_is_whole dc_is_whole pm_is_whole an_is_whole cd_is_whole ct_is_whole), sl_is_whole⟩) (c_is_whole : PySem.W.codeIn K cd_is_whole "is_whole" = true) (k_is_whole : PySem.W.keepIn K (.ref f_is_whole) = true)
    (a_is_prime : PySem.W.nsIn K mainGlobals "is_prime" = some (some (.ref f_is_prime))) (l_is_prime : K.lookup f_is_prime = some ⟨oc_is_prime, od_is_prime, .func (PySem.W.fnOf "is_prime" "is_prime" (defArgs s_is_prime) (defBody s_is_prime) (defScope s_is_prime) .none kV_is_prime dc_is_prime pm_is_prime an_is_prime cd_is_prime ct_is_prime), sl_is_prime⟩) (c_is_prime : PySem.W.codeIn K cd_is_prime "is_prime" = true) (k_is_prime : PySem.W.keepIn K (.ref f_is_prime) = true)
    (a_is_round : PySem.W.nsIn K mainGlobals "is_round" = some (some (.ref f_is_round))) (l_is_round : K.lookup f_is_round = some ⟨oc_is_round, od_is_round, .func (PySem.W.fnOf "is_round" "is_round" (defArgs s_is_round) (defBody s_is_round) (defScope s_is_round) .none kV_is_round dc_is_round pm_is_round an_is_round cd_is_round ct_is_round), sl_is_round⟩) (c_is_round : PySem.W.codeIn K cd_is_round "is_round" = true) (k_is_round : PySem.W.keepIn K (.ref f_is_round) = true)
    (a_inverse : PySem.W.nsIn K mainGlobals "inverse" = some (some (.ref f_inverse))) (l_inverse : K.lookup f_inverse = some ⟨oc_inverse, od_inverse, .func (PySem.W.fnOf "inverse" "inverse" (defArgs s_inverse) (defBody s_inverse) (defScope s_inverse) .none kV_inverse dc_inverse pm_inverse an_inverse cd_inverse ct_inverse), sl_inverse⟩) (c_inverse : PySem.W.codeIn K cd_inverse "inverse" = true) (k_inverse : PySem.W.keepIn K (.ref f_inverse) = true)
    (a_is_pair : PySem.W.nsIn K mainGlobals "is_pair" = some (some (.ref f_is_pair))) (l_is_pair : K.lookup f_is_pair = some ⟨oc_is_pair, od_is_pair, .func (PySem.W.fnOf "is_pair" "is_pair" (defArgs s_is_pair) (defBody s_is_pair) (defScope s_is_pair) .none kV_is_pair dc_is_pair pm_is_pair an_is_pair cd_is_pair ct_is_pair), sl_is_pair⟩) (c_is_pair : PySem.W.codeIn K cd_is_pair "is_pair" = true) (k_is_pair : PySem.W.keepIn K (.ref f_is_pair) = true)
    (a_is_row : PySem.W.nsIn K mainGlobals "is_row" = some (some (.ref f_is_row))) (l_is_row : K.lookup f_is_row = some ⟨oc_is_row, od_is_row, .func (PySem.W.fnOf "is_row" "is_row" (defArgs s_is_row) (defBody s_is_row) (defScope s_is_row) .none kV_is_row dc_is_row pm_is_row an_is_row cd_is_row ct_is_row), sl_is_row⟩) (c_is_row : PySem.W.codeIn K cd_is_row "is_row" = true) (k_is_row : PySem.W.keepIn K (.ref f_is_row) = true)
    (a_nought : PySem.W.nsIn K mainGlobals "nought" = some (some (.ref f_nought))) (l_nought : K.lookup f_nought = some ⟨oc_nought, od_nought, .func (PySem.W.fnOf "nought" "nought" (defArgs s_nought) (defBody s_nought) (defScope s_nought) .none kV_nought dc_nought pm_nought an_nought cd_nought ct_nought), sl_nought⟩) (c_nought : PySem.W.codeIn K cd_nought "nought" = true) (k_nought : PySem.W.keepIn K (.ref f_nought) = true)
    (a_added : PySem.W.nsIn K mainGlobals "added" = some (some (.ref f_added))) (l_added : K.lookup f_added = some ⟨oc_added, od_added, .func (PySem.W.fnOf "added" "added" (defArgs s_added) (defBody s_added) (defScope s_added) .none kV_added dc_added pm_added an_added (.ref q_added) ct_added), sl_added⟩) (c_added : PySem.W.codeIn K (.ref q_added) "added" = true) (k_added : PySem.W.keepIn K (.ref f_added) = true)
    (u_added : K.lookup q_added = some ⟨e_added, dd_added, .fields vs_added, us_added⟩) (g_added : vs_added[11]? = some (.ref p_added)) (n_added : K.lookup p_added = none)
    (a_times : PySem.W.nsIn K mainGlobals "times" = some (some (.ref f_times))) (l_times : K.lookup f_times = some ⟨oc_times, od_times, .func (PySem.W.fnOf "times" "times" (defArgs s_times) (defBody s_times) (defScope s_times) .none kV_times dc_times pm_times an_times (.ref q_times) ct_times), sl_times⟩) (c_times : PySem.W.codeIn K (.ref q_times) "times" = true) (k_times : PySem.W.keepIn K (.ref f_times) = true)
    (u_times : K.lookup q_times = some ⟨e_times, dd_times, .fields vs_times, us_times⟩) (g_times : vs_times[11]? = some (.ref p_times)) (n_times : K.lookup p_times = none)
    (a_meet : PySem.W.nsIn K mainGlobals "meet" = some (some (.ref f_meet))) (l_meet : K.lookup f_meet = some ⟨oc_meet, od_meet, .func (PySem.W.fnOf "meet" "meet" (defArgs s_meet) (defBody s_meet) (defScope s_meet) .none kV_meet dc_meet pm_meet an_meet cd_meet ct_meet), sl_meet⟩) (c_meet : PySem.W.codeIn K cd_meet "meet" = true) (k_meet : PySem.W.keepIn K (.ref f_meet) = true)
    (a_flat_of : PySem.W.nsIn K mainGlobals "flat_of" = some (some (.ref f_flat_of))) (l_flat_of : K.lookup f_flat_of = some ⟨oc_flat_of, od_flat_of, .func (PySem.W.fnOf "flat_of" "flat_of" (defArgs s_flat_of) (defBody s_flat_of) (defScope s_flat_of) .none kV_flat_of dc_flat_of pm_flat_of an_flat_of cd_flat_of ct_flat_of), sl_flat_of⟩) (c_flat_of : PySem.W.codeIn K cd_flat_of "flat_of" = true) (k_flat_of : PySem.W.keepIn K (.ref f_flat_of) = true)
    (a_row_of : PySem.W.nsIn K mainGlobals "row_of" = some (some (.ref f_row_of))) (l_row_of : K.lookup f_row_of = some ⟨oc_row_of, od_row_of, .func (PySem.W.fnOf "row_of" "row_of" (defArgs s_row_of) (defBody s_row_of) (defScope s_row_of) .none kV_row_of dc_row_of pm_row_of an_row_of (.ref q_row_of) ct_row_of), sl_row_of⟩) (c_row_of : PySem.W.codeIn K (.ref q_row_of) "row_of" = true) (k_row_of : PySem.W.keepIn K (.ref f_row_of) = true)
    (u_row_of : K.lookup q_row_of = some ⟨e_row_of, dd_row_of, .fields vs_row_of, us_row_of⟩) (g_row_of : vs_row_of[11]? = some (.ref p_row_of)) (n_row_of : K.lookup p_row_of = none)
    (a_first_place : PySem.W.nsIn K mainGlobals "first_place" = some (some (.ref f_first_place))) (l_first_place : K.lookup f_first_place = some ⟨oc_first_place, od_first_place, .func (PySem.W.fnOf "first_place" "first_place" (defArgs s_first_place) (defBody s_first_place) (defScope s_first_place) .none kV_first_place dc_first_place pm_first_place an_first_place cd_first_place ct_first_place), sl_first_place⟩) (c_first_place : PySem.W.codeIn K cd_first_place "first_place" = true) (k_first_place : PySem.W.keepIn K (.ref f_first_place) = true)
    (a_lessened : PySem.W.nsIn K mainGlobals "lessened" = some (some (.ref f_lessened))) (l_lessened : K.lookup f_lessened = some ⟨oc_lessened, od_lessened, .func (PySem.W.fnOf "lessened" "lessened" (defArgs s_lessened) (defBody s_lessened) (defScope s_lessened) .none kV_lessened dc_lessened pm_lessened an_lessened cd_lessened ct_lessened), sl_lessened⟩) (c_lessened : PySem.W.codeIn K cd_lessened "lessened" = true) (k_lessened : PySem.W.keepIn K (.ref f_lessened) = true)
    (a_cleared : PySem.W.nsIn K mainGlobals "cleared" = some (some (.ref f_cleared))) (l_cleared : K.lookup f_cleared = some ⟨oc_cleared, od_cleared, .func (PySem.W.fnOf "cleared" "cleared" (defArgs s_cleared) (defBody s_cleared) (defScope s_cleared) .none kV_cleared dc_cleared pm_cleared an_cleared cd_cleared ct_cleared), sl_cleared⟩) (c_cleared : PySem.W.codeIn K cd_cleared "cleared" = true) (k_cleared : PySem.W.keepIn K (.ref f_cleared) = true)
    (a_leads_of : PySem.W.nsIn K mainGlobals "leads_of" = some (some (.ref f_leads_of))) (l_leads_of : K.lookup f_leads_of = some ⟨oc_leads_of, od_leads_of, .func (PySem.W.fnOf "leads_of" "leads_of" (defArgs s_leads_of) (defBody s_leads_of) (defScope s_leads_of) .none kV_leads_of dc_leads_of pm_leads_of an_leads_of cd_leads_of ct_leads_of), sl_leads_of⟩) (c_leads_of : PySem.W.codeIn K cd_leads_of "leads_of" = true) (k_leads_of : PySem.W.keepIn K (.ref f_leads_of) = true)
    (a_row_leads : PySem.W.nsIn K mainGlobals "row_leads" = some (some (.ref f_row_leads))) (l_row_leads : K.lookup f_row_leads = some ⟨oc_row_leads, od_row_leads, .func (PySem.W.fnOf "row_leads" "row_leads" (defArgs s_row_leads) (defBody s_row_leads) (defScope s_row_leads) .none kV_row_leads dc_row_leads pm_row_leads an_row_leads cd_row_leads ct_row_leads), sl_row_leads⟩) (c_row_leads : PySem.W.codeIn K cd_row_leads "row_leads" = true) (k_row_leads : PySem.W.keepIn K (.ref f_row_leads) = true)
    (a_plain : PySem.W.nsIn K mainGlobals "plain" = some (some (.ref f_plain))) (l_plain : K.lookup f_plain = some ⟨oc_plain, od_plain, .func (PySem.W.fnOf "plain" "plain" (defArgs s_plain) (defBody s_plain) (defScope s_plain) .none kV_plain dc_plain pm_plain an_plain cd_plain ct_plain), sl_plain⟩) (c_plain : PySem.W.codeIn K cd_plain "plain" = true) (k_plain : PySem.W.keepIn K (.ref f_plain) = true)
    (a_together : PySem.W.nsIn K mainGlobals "together" = some (some (.ref f_together))) (l_together : K.lookup f_together = some ⟨oc_together, od_together, .func (PySem.W.fnOf "together" "together" (defArgs s_together) (defBody s_together) (defScope s_together) .none kV_together dc_together pm_together an_together cd_together ct_together), sl_together⟩) (c_together : PySem.W.codeIn K cd_together "together" = true) (k_together : PySem.W.keepIn K (.ref f_together) = true)
    (a_sided : PySem.W.nsIn K mainGlobals "sided" = some (some (.ref f_sided))) (l_sided : K.lookup f_sided = some ⟨oc_sided, od_sided, .func (PySem.W.fnOf "sided" "sided" (defArgs s_sided) (defBody s_sided) (defScope s_sided) .none kV_sided dc_sided pm_sided an_sided cd_sided ct_sided), sl_sided⟩) (c_sided : PySem.W.codeIn K cd_sided "sided" = true) (k_sided : PySem.W.keepIn K (.ref f_sided) = true)
    (a_row_of_sides : PySem.W.nsIn K mainGlobals "row_of_sides" = some (some (.ref f_row_of_sides))) (l_row_of_sides : K.lookup f_row_of_sides = some ⟨oc_row_of_sides, od_row_of_sides, .func (PySem.W.fnOf "row_of_sides" "row_of_sides" (defArgs s_row_of_sides) (defBody s_row_of_sides) (defScope s_row_of_sides) .none kV_row_of_sides dc_row_of_sides pm_row_of_sides an_row_of_sides (.ref q_row_of_sides) ct_row_of_sides), sl_row_of_sides⟩) (c_row_of_sides : PySem.W.codeIn K (.ref q_row_of_sides) "row_of_sides" = true) (k_row_of_sides : PySem.W.keepIn K (.ref f_row_of_sides) = true)
    (u_row_of_sides : K.lookup q_row_of_sides = some ⟨e_row_of_sides, dd_row_of_sides, .fields vs_row_of_sides, us_row_of_sides⟩) (g_row_of_sides : vs_row_of_sides[11]? = some (.ref p_row_of_sides)) (n_row_of_sides : K.lookup p_row_of_sides = none)
    (a_side_leads : PySem.W.nsIn K mainGlobals "side_leads" = some (some (.ref f_side_leads))) (l_side_leads : K.lookup f_side_leads = some ⟨oc_side_leads, od_side_leads, .func (PySem.W.fnOf "side_leads" "side_leads" (defArgs s_side_leads) (defBody s_side_leads) (defScope s_side_leads) .none kV_side_leads dc_side_leads pm_side_leads an_side_leads cd_side_leads ct_side_leads), sl_side_leads⟩) (c_side_leads : PySem.W.codeIn K cd_side_leads "side_leads" = true) (k_side_leads : PySem.W.keepIn K (.ref f_side_leads) = true)
    (a_table_of : PySem.W.nsIn K mainGlobals "table_of" = some (some (.ref f_table_of))) (l_table_of : K.lookup f_table_of = some ⟨oc_table_of, od_table_of, .func (PySem.W.fnOf "table_of" "table_of" (defArgs s_table_of) (defBody s_table_of) (defScope s_table_of) .none kV_table_of dc_table_of pm_table_of an_table_of (.ref q_table_of) ct_table_of), sl_table_of⟩) (c_table_of : PySem.W.codeIn K (.ref q_table_of) "table_of" = true) (k_table_of : PySem.W.keepIn K (.ref f_table_of) = true)
    (u_table_of : K.lookup q_table_of = some ⟨e_table_of, dd_table_of, .fields vs_table_of, us_table_of⟩) (g_table_of : vs_table_of[11]? = some (.ref p_table_of)) (n_table_of : K.lookup p_table_of = none)
    (a_rows_by_table : PySem.W.nsIn K mainGlobals "rows_by_table" = some (some (.ref f_rows_by_table))) (l_rows_by_table : K.lookup f_rows_by_table = some ⟨oc_rows_by_table, od_rows_by_table, .func (PySem.W.fnOf "rows_by_table" "rows_by_table" (defArgs s_rows_by_table) (defBody s_rows_by_table) (defScope s_rows_by_table) .none kV_rows_by_table dc_rows_by_table pm_rows_by_table an_rows_by_table cd_rows_by_table ct_rows_by_table), sl_rows_by_table⟩) (c_rows_by_table : PySem.W.codeIn K cd_rows_by_table "rows_by_table" = true) (k_rows_by_table : PySem.W.keepIn K (.ref f_rows_by_table) = true)
    (a_still_rows : PySem.W.nsIn K mainGlobals "still_rows" = some (some (.ref f_still_rows))) (l_still_rows : K.lookup f_still_rows = some ⟨oc_still_rows, od_still_rows, .func (PySem.W.fnOf "still_rows" "still_rows" (defArgs s_still_rows) (defBody s_still_rows) (defScope s_still_rows) .none kV_still_rows dc_still_rows pm_still_rows an_still_rows cd_still_rows ct_still_rows), sl_still_rows⟩) (c_still_rows : PySem.W.codeIn K cd_still_rows "still_rows" = true) (k_still_rows : PySem.W.keepIn K (.ref f_still_rows) = true)
    (a_still_hands : PySem.W.nsIn K mainGlobals "still_hands" = some (some (.ref f_still_hands))) (l_still_hands : K.lookup f_still_hands = some ⟨oc_still_hands, od_still_hands, .func (PySem.W.fnOf "still_hands" "still_hands" (defArgs s_still_hands) (defBody s_still_hands) (defScope s_still_hands) .none kV_still_hands dc_still_hands pm_still_hands an_still_hands cd_still_hands ct_still_hands), sl_still_hands⟩) (c_still_hands : PySem.W.codeIn K cd_still_hands "still_hands" = true) (k_still_hands : PySem.W.keepIn K (.ref f_still_hands) = true)
    (a_table : PySem.W.nsIn K mainGlobals "table" = some (some (.ref f_table))) (l_table : K.lookup f_table = some ⟨oc_table, od_table, .func (PySem.W.fnOf "table" "table" (defArgs s_table) (defBody s_table) (defScope s_table) .none kV_table dc_table pm_table an_table cd_table ct_table), sl_table⟩) (c_table : PySem.W.codeIn K cd_table "table" = true) (k_table : PySem.W.keepIn K (.ref f_table) = true)
    (a_read : PySem.W.nsIn K mainGlobals "read" = some (some (.ref f_read))) (l_read : K.lookup f_read = some ⟨oc_read, od_read, .func (PySem.W.fnOf "read" "read" (defArgs s_read) (defBody s_read) (defScope s_read) .none kV_read dc_read pm_read an_read cd_read ct_read), sl_read⟩) (c_read : PySem.W.codeIn K cd_read "read" = true) (k_read : PySem.W.keepIn K (.ref f_read) = true)
    (a_stepped : PySem.W.nsIn K mainGlobals "stepped" = some (some (.ref f_stepped))) (l_stepped : K.lookup f_stepped = some ⟨oc_stepped, od_stepped, .func (PySem.W.fnOf "stepped" "stepped" (defArgs s_stepped) (defBody s_stepped) (defScope s_stepped) .none kV_stepped dc_stepped pm_stepped an_stepped (.ref q_stepped) ct_stepped), sl_stepped⟩) (c_stepped : PySem.W.codeIn K (.ref q_stepped) "stepped" = true) (k_stepped : PySem.W.keepIn K (.ref f_stepped) = true)
    (u_stepped : K.lookup q_stepped = some ⟨e_stepped, dd_stepped, .fields vs_stepped, us_stepped⟩) (g_stepped : vs_stepped[11]? = some (.ref p_stepped)) (n_stepped : K.lookup p_stepped = none)
    (a_units : PySem.W.nsIn K mainGlobals "units" = some (some (.ref f_units))) (l_units : K.lookup f_units = some ⟨oc_units, od_units, .func (PySem.W.fnOf "units" "units" (defArgs s_units) (defBody s_units) (defScope s_units) .none kV_units dc_units pm_units an_units (.ref q_units) ct_units), sl_units⟩) (c_units : PySem.W.codeIn K (.ref q_units) "units" = true) (k_units : PySem.W.keepIn K (.ref f_units) = true)
    (u_units : K.lookup q_units = some ⟨e_units, dd_units, .fields vs_units, us_units⟩) (g_units : vs_units[11]? = some (.ref p_units)) (n_units : K.lookup p_units = none)
    (a_moved : PySem.W.nsIn K mainGlobals "moved" = some (some (.ref f_moved))) (l_moved : K.lookup f_moved = some ⟨oc_moved, od_moved, .func (PySem.W.fnOf "moved" "moved" (defArgs s_moved) (defBody s_moved) (defScope s_moved) .none kV_moved dc_moved pm_moved an_moved (.ref q_moved) ct_moved), sl_moved⟩) (c_moved : PySem.W.codeIn K (.ref q_moved) "moved" = true) (k_moved : PySem.W.keepIn K (.ref f_moved) = true)
    (u_moved : K.lookup q_moved = some ⟨e_moved, dd_moved, .fields vs_moved, us_moved⟩) (g_moved : vs_moved[11]? = some (.ref p_moved)) (n_moved : K.lookup p_moved = none)
    (a_rule_of : PySem.W.nsIn K mainGlobals "rule_of" = some (some (.ref f_rule_of))) (l_rule_of : K.lookup f_rule_of = some ⟨oc_rule_of, od_rule_of, .func (PySem.W.fnOf "rule_of" "rule_of" (defArgs s_rule_of) (defBody s_rule_of) (defScope s_rule_of) .none kV_rule_of dc_rule_of pm_rule_of an_rule_of cd_rule_of ct_rule_of), sl_rule_of⟩) (c_rule_of : PySem.W.codeIn K cd_rule_of "rule_of" = true) (k_rule_of : PySem.W.keepIn K (.ref f_rule_of) = true)
    (a_round_of : PySem.W.nsIn K mainGlobals "round_of" = some (some (.ref f_round_of))) (l_round_of : K.lookup f_round_of = some ⟨oc_round_of, od_round_of, .func (PySem.W.fnOf "round_of" "round_of" (defArgs s_round_of) (defBody s_round_of) (defScope s_round_of) .none kV_round_of dc_round_of pm_round_of an_round_of cd_round_of ct_round_of), sl_round_of⟩) (c_round_of : PySem.W.codeIn K cd_round_of "round_of" = true) (k_round_of : PySem.W.keepIn K (.ref f_round_of) = true)
    (a_posts_of : PySem.W.nsIn K mainGlobals "posts_of" = some (some (.ref f_posts_of))) (l_posts_of : K.lookup f_posts_of = some ⟨oc_posts_of, od_posts_of, .func (PySem.W.fnOf "posts_of" "posts_of" (defArgs s_posts_of) (defBody s_posts_of) (defScope s_posts_of) .none kV_posts_of dc_posts_of pm_posts_of an_posts_of cd_posts_of ct_posts_of), sl_posts_of⟩) (c_posts_of : PySem.W.codeIn K cd_posts_of "posts_of" = true) (k_posts_of : PySem.W.keepIn K (.ref f_posts_of) = true)
    (a_are_rows : PySem.W.nsIn K mainGlobals "are_rows" = some (some (.ref f_are_rows))) (l_are_rows : K.lookup f_are_rows = some ⟨oc_are_rows, od_are_rows, .func (PySem.W.fnOf "are_rows" "are_rows" (defArgs s_are_rows) (defBody s_are_rows) (defScope s_are_rows) .none kV_are_rows dc_are_rows pm_are_rows an_are_rows cd_are_rows ct_are_rows), sl_are_rows⟩) (c_are_rows : PySem.W.codeIn K cd_are_rows "are_rows" = true) (k_are_rows : PySem.W.keepIn K (.ref f_are_rows) = true)
    (a_first_unfair : PySem.W.nsIn K mainGlobals "first_unfair" = some (some (.ref f_first_unfair))) (l_first_unfair : K.lookup f_first_unfair = some ⟨oc_first_unfair, od_first_unfair, .func (PySem.W.fnOf "first_unfair" "first_unfair" (defArgs s_first_unfair) (defBody s_first_unfair) (defScope s_first_unfair) .none kV_first_unfair dc_first_unfair pm_first_unfair an_first_unfair cd_first_unfair ct_first_unfair), sl_first_unfair⟩) (c_first_unfair : PySem.W.codeIn K cd_first_unfair "first_unfair" = true) (k_first_unfair : PySem.W.keepIn K (.ref f_first_unfair) = true)
    (a__law_deck : PySem.W.nsIn K mainGlobals "_law_deck" = some (some (.ref f__law_deck))) (l__law_deck : K.lookup f__law_deck = some ⟨oc__law_deck, od__law_deck, .func (PySem.W.fnOf "_law_deck" "_law_deck" (defArgs s__law_deck) (defBody s__law_deck) (defScope s__law_deck) .none kV__law_deck dc__law_deck pm__law_deck an__law_deck cd__law_deck ct__law_deck), sl__law_deck⟩) (c__law_deck : PySem.W.codeIn K cd__law_deck "_law_deck" = true) (k__law_deck : PySem.W.keepIn K (.ref f__law_deck) = true)
    (a__law_next : PySem.W.nsIn K mainGlobals "_law_next" = some (some (.ref f__law_next))) (l__law_next : K.lookup f__law_next = some ⟨oc__law_next, od__law_next, .func (PySem.W.fnOf "_law_next" "_law_next" (defArgs s__law_next) (defBody s__law_next) (defScope s__law_next) .none kV__law_next dc__law_next pm__law_next an__law_next cd__law_next ct__law_next), sl__law_next⟩) (c__law_next : PySem.W.codeIn K cd__law_next "_law_next" = true) (k__law_next : PySem.W.keepIn K (.ref f__law_next) = true)
    (a__law_prime : PySem.W.nsIn K mainGlobals "_law_prime" = some (some (.ref f__law_prime))) (l__law_prime : K.lookup f__law_prime = some ⟨oc__law_prime, od__law_prime, .func (PySem.W.fnOf "_law_prime" "_law_prime" (defArgs s__law_prime) (defBody s__law_prime) (defScope s__law_prime) .none kV__law_prime dc__law_prime pm__law_prime an__law_prime cd__law_prime ct__law_prime), sl__law_prime⟩) (c__law_prime : PySem.W.codeIn K cd__law_prime "_law_prime" = true) (k__law_prime : PySem.W.keepIn K (.ref f__law_prime) = true)
    (a__law_numbers : PySem.W.nsIn K mainGlobals "_law_numbers" = some (some (.ref f__law_numbers))) (l__law_numbers : K.lookup f__law_numbers = some ⟨oc__law_numbers, od__law_numbers, .func (PySem.W.fnOf "_law_numbers" "_law_numbers" (defArgs s__law_numbers) (defBody s__law_numbers) (defScope s__law_numbers) .none kV__law_numbers dc__law_numbers pm__law_numbers an__law_numbers cd__law_numbers ct__law_numbers), sl__law_numbers⟩) (c__law_numbers : PySem.W.codeIn K cd__law_numbers "_law_numbers" = true) (k__law_numbers : PySem.W.keepIn K (.ref f__law_numbers) = true)
    (a__law_hold : PySem.W.nsIn K mainGlobals "_law_hold" = some (some (.ref f__law_hold))) (l__law_hold : K.lookup f__law_hold = some ⟨oc__law_hold, od__law_hold, .func (PySem.W.fnOf "_law_hold" "_law_hold" (defArgs s__law_hold) (defBody s__law_hold) (defScope s__law_hold) .none kV__law_hold dc__law_hold pm__law_hold an__law_hold cd__law_hold ct__law_hold), sl__law_hold⟩) (c__law_hold : PySem.W.codeIn K cd__law_hold "_law_hold" = true) (k__law_hold : PySem.W.keepIn K (.ref f__law_hold) = true)
    (a__law_table : PySem.W.nsIn K mainGlobals "_law_table" = some (some (.ref f__law_table))) (l__law_table : K.lookup f__law_table = some ⟨oc__law_table, od__law_table, .func (PySem.W.fnOf "_law_table" "_law_table" (defArgs s__law_table) (defBody s__law_table) (defScope s__law_table) .none kV__law_table dc__law_table pm__law_table an__law_table cd__law_table ct__law_table), sl__law_table⟩) (c__law_table : PySem.W.codeIn K cd__law_table "_law_table" = true) (k__law_table : PySem.W.keepIn K (.ref f__law_table) = true)
    (a__law_stand : PySem.W.nsIn K mainGlobals "_law_stand" = some (some (.ref f__law_stand))) (l__law_stand : K.lookup f__law_stand = some ⟨oc__law_stand, od__law_stand, .func (PySem.W.fnOf "_law_stand" "_law_stand" (defArgs s__law_stand) (defBody s__law_stand) (defScope s__law_stand) .none kV__law_stand dc__law_stand pm__law_stand an__law_stand cd__law_stand ct__law_stand), sl__law_stand⟩) (c__law_stand : PySem.W.codeIn K cd__law_stand "_law_stand" = true) (k__law_stand : PySem.W.keepIn K (.ref f__law_stand) = true)
    (a__law_units : PySem.W.nsIn K mainGlobals "_law_units" = some (some (.ref f__law_units))) (l__law_units : K.lookup f__law_units = some ⟨oc__law_units, od__law_units, .func (PySem.W.fnOf "_law_units" "_law_units" (defArgs s__law_units) (defBody s__law_units) (defScope s__law_units) .none kV__law_units dc__law_units pm__law_units an__law_units cd__law_units ct__law_units), sl__law_units⟩) (c__law_units : PySem.W.codeIn K cd__law_units "_law_units" = true) (k__law_units : PySem.W.keepIn K (.ref f__law_units) = true)
    (a__law_added : PySem.W.nsIn K mainGlobals "_law_added" = some (some (.ref f__law_added))) (l__law_added : K.lookup f__law_added = some ⟨oc__law_added, od__law_added, .func (PySem.W.fnOf "_law_added" "_law_added" (defArgs s__law_added) (defBody s__law_added) (defScope s__law_added) .none kV__law_added dc__law_added pm__law_added an__law_added cd__law_added ct__law_added), sl__law_added⟩) (c__law_added : PySem.W.codeIn K cd__law_added "_law_added" = true) (k__law_added : PySem.W.keepIn K (.ref f__law_added) = true)
    (a__law_times : PySem.W.nsIn K mainGlobals "_law_times" = some (some (.ref f__law_times))) (l__law_times : K.lookup f__law_times = some ⟨oc__law_times, od__law_times, .func (PySem.W.fnOf "_law_times" "_law_times" (defArgs s__law_times) (defBody s__law_times) (defScope s__law_times) .none kV__law_times dc__law_times pm__law_times an__law_times cd__law_times ct__law_times), sl__law_times⟩) (c__law_times : PySem.W.codeIn K cd__law_times "_law_times" = true) (k__law_times : PySem.W.keepIn K (.ref f__law_times) = true)
    (a__law_stirred : PySem.W.nsIn K mainGlobals "_law_stirred" = some (some (.ref f__law_stirred))) (l__law_stirred : K.lookup f__law_stirred = some ⟨oc__law_stirred, od__law_stirred, .func (PySem.W.fnOf "_law_stirred" "_law_stirred" (defArgs s__law_stirred) (defBody s__law_stirred) (defScope s__law_stirred) .none kV__law_stirred dc__law_stirred pm__law_stirred an__law_stirred cd__law_stirred ct__law_stirred), sl__law_stirred⟩) (c__law_stirred : PySem.W.codeIn K cd__law_stirred "_law_stirred" = true) (k__law_stirred : PySem.W.keepIn K (.ref f__law_stirred) = true)
    (a__law_step : PySem.W.nsIn K mainGlobals "_law_step" = some (some (.ref f__law_step))) (l__law_step : K.lookup f__law_step = some ⟨oc__law_step, od__law_step, .func (PySem.W.fnOf "_law_step" "_law_step" (defArgs s__law_step) (defBody s__law_step) (defScope s__law_step) .none kV__law_step dc__law_step pm__law_step an__law_step cd__law_step ct__law_step), sl__law_step⟩) (c__law_step : PySem.W.codeIn K cd__law_step "_law_step" = true) (k__law_step : PySem.W.keepIn K (.ref f__law_step) = true)
    (a__law_wires : PySem.W.nsIn K mainGlobals "_law_wires" = some (some (.ref f__law_wires))) (l__law_wires : K.lookup f__law_wires = some ⟨oc__law_wires, od__law_wires, .func (PySem.W.fnOf "_law_wires" "_law_wires" (defArgs s__law_wires) (defBody s__law_wires) (defScope s__law_wires) .none kV__law_wires dc__law_wires pm__law_wires an__law_wires cd__law_wires ct__law_wires), sl__law_wires⟩) (c__law_wires : PySem.W.codeIn K cd__law_wires "_law_wires" = true) (k__law_wires : PySem.W.keepIn K (.ref f__law_wires) = true)
    (a__law_led : PySem.W.nsIn K mainGlobals "_law_led" = some (some (.ref f__law_led))) (l__law_led : K.lookup f__law_led = some ⟨oc__law_led, od__law_led, .func (PySem.W.fnOf "_law_led" "_law_led" (defArgs s__law_led) (defBody s__law_led) (defScope s__law_led) .none kV__law_led dc__law_led pm__law_led an__law_led cd__law_led ct__law_led), sl__law_led⟩) (c__law_led : PySem.W.codeIn K cd__law_led "_law_led" = true) (k__law_led : PySem.W.keepIn K (.ref f__law_led) = true)
    (a__law_gone_round : PySem.W.nsIn K mainGlobals "_law_gone_round" = some (some (.ref f__law_gone_round))) (l__law_gone_round : K.lookup f__law_gone_round = some ⟨oc__law_gone_round, od__law_gone_round, .func (PySem.W.fnOf "_law_gone_round" "_law_gone_round" (defArgs s__law_gone_round) (defBody s__law_gone_round) (defScope s__law_gone_round) .none kV__law_gone_round dc__law_gone_round pm__law_gone_round an__law_gone_round cd__law_gone_round ct__law_gone_round), sl__law_gone_round⟩) (c__law_gone_round : PySem.W.codeIn K cd__law_gone_round "_law_gone_round" = true) (k__law_gone_round : PySem.W.keepIn K (.ref f__law_gone_round) = true)
    (a__law_asked : PySem.W.nsIn K mainGlobals "_law_asked" = some (some (.ref f__law_asked))) (l__law_asked : K.lookup f__law_asked = some ⟨oc__law_asked, od__law_asked, .func (PySem.W.fnOf "_law_asked" "_law_asked" (defArgs s__law_asked) (defBody s__law_asked) (defScope s__law_asked) .none kV__law_asked dc__law_asked pm__law_asked an__law_asked cd__law_asked ct__law_asked), sl__law_asked⟩) (c__law_asked : PySem.W.codeIn K cd__law_asked "_law_asked" = true) (k__law_asked : PySem.W.keepIn K (.ref f__law_asked) = true)
    (a_law : PySem.W.nsIn K mainGlobals "law" = some (some (.ref f_law))) (l_law : K.lookup f_law = some ⟨oc_law, od_law, .func (PySem.W.fnOf "law" "law" (defArgs s_law) (defBody s_law) (defScope s_law) .none kV_law dc_law pm_law an_law cd_law ct_law), sl_law⟩) (c_law : PySem.W.codeIn K cd_law "law" = true) (k_law : PySem.W.keepIn K (.ref f_law) = true)
    (z_abs : PySem.W.nsIn K mainGlobals "abs" = some none)
    (z_all : PySem.W.nsIn K mainGlobals "all" = some none)
    (z_any : PySem.W.nsIn K mainGlobals "any" = some none)
    (z_bool : PySem.W.nsIn K mainGlobals "bool" = some none)
    (z_enumerate : PySem.W.nsIn K mainGlobals "enumerate" = some none)
    (z_int : PySem.W.nsIn K mainGlobals "int" = some none)
    (z_isinstance : PySem.W.nsIn K mainGlobals "isinstance" = some none)
    (z_len : PySem.W.nsIn K mainGlobals "len" = some none)
    (z_list : PySem.W.nsIn K mainGlobals "list" = some none)
    (z_range : PySem.W.nsIn K mainGlobals "range" = some none)
    (z_repr : PySem.W.nsIn K mainGlobals "repr" = some none)
    (z_sorted : PySem.W.nsIn K mainGlobals "sorted" = some none)
    (z_sum : PySem.W.nsIn K mainGlobals "sum" = some none)
    (z_tuple : PySem.W.nsIn K mainGlobals "tuple" = some none)
    (z_zip : PySem.W.nsIn K mainGlobals "zip" = some none)
    (e_PRIMES : PySem.W.nsIn K mainGlobals "PRIMES" = some (some (.ref c_PRIMES))) (h_PRIMES : K.lookup c_PRIMES = some ⟨.type "tuple", od_PRIMES, .seq #[.int 2 t_PRIMES0, .int 3 t_PRIMES1, .int 5 t_PRIMES2, .int 7 t_PRIMES3, .int 11 t_PRIMES4, .int 13 t_PRIMES5] n_PRIMES, sl_PRIMES⟩)
    (e_POSTS : PySem.W.nsIn K mainGlobals "POSTS" = some (some (.int 10 t_POSTS)))
    (e_ROUNDS : PySem.W.nsIn K mainGlobals "ROUNDS" = some (some (.int 3000 t_ROUNDS)))
    (g_Thing : PySem.W.nsIn K mainGlobals "Thing" = some (some (.ref c_Thing))) (pg_Thing : PySem.W.plainGet K c_Thing Str.empty = true) (hd_Thing : PySem.W.hasDictIn K c_Thing = true) (po_Thing : PySem.W.plainOver K c_Thing = true) (sa_Thing : PySem.W.findIn K (.ref c_Thing) "__setattr__" = some (some (.builtin "object.__setattr__"))) (mk_Thing : PySem.W.makesIn K c_Thing = true) (kc_Thing : PySem.W.keepIn K (.ref c_Thing) = true)
    (n_Thing_prime : PySem.W.findIn K (.ref c_Thing) "prime" = some none)
    (n_Thing_lot : PySem.W.findIn K (.ref c_Thing) "lot" = some none)
    (ne_Thing : PySem.W.findIn K (.ref c_Thing) "__ne__" = some (some (.builtin "object.__ne__")))
    (ob_Thing : PySem.W.mroIn K c_Thing (.type "object") = some true)
    (ca_Thing : PySem.W.findIn K (.ref c_Thing) "__class__" = some (some (.builtin "object.__class__")))
    (k_get : PySem.W.specialIn K (.builtin "object.__class__") "__get__" = some (some (.builtin "getset_descriptor.__get__")))
    (k_tak : PySem.W.takesIn K (.builtin "object.__class__") = some true)
    (a_Thing___init__ : PySem.W.findIn K (.ref c_Thing) "__init__" = some (some (.ref f_Thing___init__))) (i_Thing___init__ : PySem.W.isFn K (.ref f_Thing___init__) = true) (l_Thing___init__ : K.lookup f_Thing___init__ = some ⟨oc_Thing___init__, od_Thing___init__, .func (PySem.W.fnOf "__init__" "Thing.__init__" (defArgs s_Thing___init__) (defBody s_Thing___init__) (defScope s_Thing___init__) .none kV_Thing___init__ dc_Thing___init__ pm_Thing___init__ an_Thing___init__ cd_Thing___init__ ct_Thing___init__), sl_Thing___init__⟩) (c_Thing___init__ : PySem.W.codeIn K cd_Thing___init__ "Thing.__init__" = true) (k_Thing___init__ : PySem.W.keepIn K (.ref f_Thing___init__) = true)
    (a_Thing_p : PySem.W.findIn K (.ref c_Thing) "p" = some (some (.ref f_Thing_p))) (i_Thing_p : PySem.W.isFn K (.ref f_Thing_p) = true) (l_Thing_p : K.lookup f_Thing_p = some ⟨oc_Thing_p, od_Thing_p, .func (PySem.W.fnOf "p" "Thing.p" (defArgs s_Thing_p) (defBody s_Thing_p) (defScope s_Thing_p) .none kV_Thing_p dc_Thing_p pm_Thing_p an_Thing_p cd_Thing_p ct_Thing_p), sl_Thing_p⟩) (c_Thing_p : PySem.W.codeIn K cd_Thing_p "Thing.p" = true) (k_Thing_p : PySem.W.keepIn K (.ref f_Thing_p) = true)
    (a_Thing_rows : PySem.W.findIn K (.ref c_Thing) "rows" = some (some (.ref f_Thing_rows))) (i_Thing_rows : PySem.W.isFn K (.ref f_Thing_rows) = true) (l_Thing_rows : K.lookup f_Thing_rows = some ⟨oc_Thing_rows, od_Thing_rows, .func (PySem.W.fnOf "rows" "Thing.rows" (defArgs s_Thing_rows) (defBody s_Thing_rows) (defScope s_Thing_rows) .none kV_Thing_rows dc_Thing_rows pm_Thing_rows an_Thing_rows cd_Thing_rows ct_Thing_rows), sl_Thing_rows⟩) (c_Thing_rows : PySem.W.codeIn K cd_Thing_rows "Thing.rows" = true) (k_Thing_rows : PySem.W.keepIn K (.ref f_Thing_rows) = true)
    (g_PostError : PySem.W.nsIn K mainGlobals "PostError" = some (some (.ref c_PostError)))
    (g_BadThing : PySem.W.nsIn K mainGlobals "BadThing" = some (some (.ref c_BadThing)))
    (g_BadPost : PySem.W.nsIn K mainGlobals "BadPost" = some (some (.ref c_BadPost)))
    (g_BadNumber : PySem.W.nsIn K mainGlobals "BadNumber" = some (some (.ref c_BadNumber)))
    (g_Still : PySem.W.nsIn K mainGlobals "Still" = some (some (.ref c_Still)))
    (g_TooMany : PySem.W.nsIn K mainGlobals "TooMany" = some (some (.ref c_TooMany)))
    (i_TooMany___init__ : PySem.W.findIn K (.ref c_TooMany) "__init__" = some (some (.ref f_TooMany___init__)))
    (t_TooMany___init__ : PySem.W.typeIn K (.ref f_TooMany___init__) = some (.type "function"))
    (l_TooMany___init__ : K.lookup f_TooMany___init__ = some ⟨oc_TooMany___init__, od_TooMany___init__, .func (PySem.W.fnOf "__init__" "TooMany.__init__" (defArgs s_TooMany___init__) (defBody s_TooMany___init__) (defScope s_TooMany___init__) .none kV_TooMany___init__ dc_TooMany___init__ pm_TooMany___init__ an_TooMany___init__ cd_TooMany___init__ ct_TooMany___init__), sl_TooMany___init__⟩)
    (c_TooMany___init__ : PySem.W.codeIn K cd_TooMany___init__ "TooMany.__init__" = true)
    (k_TooMany___init__ : PySem.W.keepIn K (.ref f_TooMany___init__) = true)
    (x_TooMany : K.lookup c_TooMany = some (excClassObj nm_TooMany q_TooMany c_TooMany N_TooMany bs_TooMany [.ref c_PostError, .type "ValueError", .type "Exception", .type "BaseException", .type "object"] true sn_TooMany su_TooMany ab_TooMany co_TooMany dd_TooMany y0_TooMany y1_TooMany y2_TooMany y3_TooMany y5_TooMany "ValueError.__new__"))
    (sa_TooMany : PySem.W.findIn K (.ref c_TooMany) "__setattr__" = some (some (.builtin "object.__setattr__")))
    (ex_TooMany : PySem.W.subIn K (.ref c_TooMany) (.type "BaseException") = some true)
    (ty_TooMany : PySem.W.typeIn K (.ref c_TooMany) = some (.type "type"))
    (kp_TooMany : PySem.W.keepIn K (.ref c_TooMany) = true)
    (ga_TooMany : PySem.W.findIn K (.ref c_TooMany) "__getattribute__" = some (some (.builtin "BaseException.__getattribute__")))
    (gg_TooMany : PySem.W.findIn K (.ref c_TooMany) "__getattr__" = some none)
    (hd_TooMany : PySem.W.hasDictIn K c_TooMany = true)
    (ca_TooMany : PySem.W.findIn K (.ref c_TooMany) "__class__" = some (some (.builtin "object.__class__")))
    (ob_TooMany : PySem.W.mroIn K c_TooMany (.type "object") = some true)
    (ss_TooMany : PySem.W.subIn K (.ref c_TooMany) (.ref c_TooMany) = some true)
    (ve_TooMany : PySem.W.subIn K (.ref c_TooMany) (.type "ValueError") = some true)
    (n_TooMany_bound : PySem.W.findIn K (.ref c_TooMany) "bound" = some none)
    (u_TooMany_PostError : PySem.W.subIn K (.ref c_TooMany) (.ref c_PostError) = some true)
    (u_TooMany_BadNumber : PySem.W.subIn K (.ref c_TooMany) (.ref c_BadNumber) = some false)
    (u_TooMany_BadPost : PySem.W.subIn K (.ref c_TooMany) (.ref c_BadPost) = some false)
    (u_TooMany_BadThing : PySem.W.subIn K (.ref c_TooMany) (.ref c_BadThing) = some false)
    (u_TooMany_Still : PySem.W.subIn K (.ref c_TooMany) (.ref c_Still) = some false)
    (bs_PostError : PySem.W.specialIn K (.ref c_PostError) "__getattribute__" = some (some (.builtin "type.__getattribute__")))
    (br_PostError : PySem.W.readsIn K c_PostError (.type "type") = true)
    (bf_PostError : PySem.W.findCls K (.ref c_PostError) (.type "type") "__init__" = some (.val (.builtin "ValueError.__init__")))
    (kc_PostError : PySem.W.isClsIn K c_PostError = true)
    (kt_PostError : PySem.W.typeIn K (.ref c_PostError) = some (.type "type"))
    (kb_PostError : PySem.W.subIn K (.ref c_PostError) (.type "BaseException") = some true)
    (kc_TooMany : PySem.W.isClsIn K c_TooMany = true)
    (kt_TooMany : PySem.W.typeIn K (.ref c_TooMany) = some (.type "type"))
    (kb_TooMany : PySem.W.subIn K (.ref c_TooMany) (.type "BaseException") = some true)
    (kc_BadNumber : PySem.W.isClsIn K c_BadNumber = true)
    (kt_BadNumber : PySem.W.typeIn K (.ref c_BadNumber) = some (.type "type"))
    (kb_BadNumber : PySem.W.subIn K (.ref c_BadNumber) (.type "BaseException") = some true)
    (kc_BadPost : PySem.W.isClsIn K c_BadPost = true)
    (kt_BadPost : PySem.W.typeIn K (.ref c_BadPost) = some (.type "type"))
    (kb_BadPost : PySem.W.subIn K (.ref c_BadPost) (.type "BaseException") = some true)
    (kc_BadThing : PySem.W.isClsIn K c_BadThing = true)
    (kt_BadThing : PySem.W.typeIn K (.ref c_BadThing) = some (.type "type"))
    (kb_BadThing : PySem.W.subIn K (.ref c_BadThing) (.type "BaseException") = some true)
    (kc_Still : PySem.W.isClsIn K c_Still = true)
    (kt_Still : PySem.W.typeIn K (.ref c_Still) = some (.type "type"))
    (kb_Still : PySem.W.subIn K (.ref c_Still) (.type "BaseException") = some true) :
    ∃ cs : List (Addr × Addr), (∀ p ∈ cs, h.get? p.2 = some { cls := .none, data := .fields #[] }) ∧ (∀ p ∈ cs, K.lookup p.2 = none) ∧ (∀ p ∈ cs, PySem.W.CodeHd h p.1 p.2) ∧ LawOkT l.prog w K mg fa cs := by
  have e := hfa.symm.trans (PySem.W.mg_of X G a_law)
  cases e
  have F_is_whole := fun_mk (st := s_is_whole) l_is_whole c_is_whole k_is_whole
  have b_is_whole := F_is_whole.binds (ps := ["thing"]) fun _ _ _ _ _ _ us hl => match us, hl with | [_], _ => rfl
  have F_is_prime := fun_mk (st := s_is_prime) l_is_prime c_is_prime k_is_prime
  have b_is_prime := F_is_prime.binds (ps := ["thing"]) fun _ _ _ _ _ _ us hl => match us, hl with | [_], _ => rfl
  have F_is_round := fun_mk (st := s_is_round) l_is_round c_is_round k_is_round
  have b_is_round := F_is_round.binds (ps := ["p", "thing"]) fun _ _ _ _ _ _ us hl => match us, hl with | [_, _], _ => rfl
  have F_inverse := fun_mk (st := s_inverse) l_inverse c_inverse k_inverse
  have b_inverse := F_inverse.binds (ps := ["p", "number"]) fun _ _ _ _ _ _ us hl => match us, hl with | [_, _], _ => rfl
  have F_is_pair := fun_mk (st := s_is_pair) l_is_pair c_is_pair k_is_pair
  have b_is_pair := F_is_pair.binds (ps := ["p", "thing"]) fun _ _ _ _ _ _ us hl => match us, hl with | [_, _], _ => rfl
  have F_is_row := fun_mk (st := s_is_row) l_is_row c_is_row k_is_row
  have b_is_row := F_is_row.binds (ps := ["p", "posts", "thing"]) fun _ _ _ _ _ _ us hl => match us, hl with | [_, _, _], _ => rfl
  have F_nought := fun_mk (st := s_nought) l_nought c_nought k_nought
  have b_nought := F_nought.binds (ps := ["posts"]) fun _ _ _ _ _ _ us hl => match us, hl with | [_], _ => rfl
  have F_added := fun_mk (st := s_added) l_added c_added k_added
  have b_added := F_added.binds (ps := ["p", "one", "other"]) fun _ _ _ _ _ _ us hl => match us, hl with | [_, _, _], _ => rfl
  have F_times := fun_mk (st := s_times) l_times c_times k_times
  have b_times := F_times.binds (ps := ["p", "number", "row"]) fun _ _ _ _ _ _ us hl => match us, hl with | [_, _, _], _ => rfl
  have F_meet := fun_mk (st := s_meet) l_meet c_meet k_meet
  have b_meet := F_meet.binds (ps := ["p", "one", "other"]) fun _ _ _ _ _ _ us hl => match us, hl with | [_, _, _], _ => rfl
  have F_flat_of := fun_mk (st := s_flat_of) l_flat_of c_flat_of k_flat_of
  have b_flat_of := F_flat_of.binds (ps := ["row"]) fun _ _ _ _ _ _ us hl => match us, hl with | [_], _ => rfl
  have F_row_of := fun_mk (st := s_row_of) l_row_of c_row_of k_row_of
  have b_row_of := F_row_of.binds (ps := ["flat"]) fun _ _ _ _ _ _ us hl => match us, hl with | [_], _ => rfl
  have F_first_place := fun_mk (st := s_first_place) l_first_place c_first_place k_first_place
  have b_first_place := F_first_place.binds (ps := ["flat"]) fun _ _ _ _ _ _ us hl => match us, hl with | [_], _ => rfl
  have F_lessened := fun_mk (st := s_lessened) l_lessened c_lessened k_lessened
  have b_lessened := F_lessened.binds (ps := ["p", "flat", "number", "other"]) fun _ _ _ _ _ _ us hl => match us, hl with | [_, _, _, _], _ => rfl
  have F_cleared := fun_mk (st := s_cleared) l_cleared c_cleared k_cleared
  have b_cleared := F_cleared.binds (ps := ["p", "flat", "leads"]) fun _ _ _ _ _ _ us hl => match us, hl with | [_, _, _], _ => rfl
  have F_leads_of := fun_mk (st := s_leads_of) l_leads_of c_leads_of k_leads_of
  have b_leads_of := F_leads_of.binds (ps := ["p", "flats"]) fun _ _ _ _ _ _ us hl => match us, hl with | [_, _], _ => rfl
  have F_row_leads := fun_mk (st := s_row_leads) l_row_leads c_row_leads k_row_leads
  have b_row_leads := F_row_leads.binds (ps := ["p", "rows"]) fun _ _ _ _ _ _ us hl => match us, hl with | [_, _], _ => rfl
  have F_plain := fun_mk (st := s_plain) l_plain c_plain k_plain
  have b_plain := F_plain.binds (ps := ["p", "posts", "rows"]) fun _ _ _ _ _ _ us hl => match us, hl with | [_, _, _], _ => rfl
  have F_together := fun_mk (st := s_together) l_together c_together k_together
  have b_together := F_together.binds (ps := ["p", "posts", "numbers", "rows"]) fun _ _ _ _ _ _ us hl => match us, hl with | [_, _, _, _], _ => rfl
  have F_sided := fun_mk (st := s_sided) l_sided c_sided k_sided
  have b_sided := F_sided.binds (ps := ["p", "hold", "row"]) fun _ _ _ _ _ _ us hl => match us, hl with | [_, _, _], _ => rfl
  have F_row_of_sides := fun_mk (st := s_row_of_sides) l_row_of_sides c_row_of_sides k_row_of_sides
  have b_row_of_sides := F_row_of_sides.binds (ps := ["p", "hold", "held", "told"]) fun _ _ _ _ _ _ us hl => match us, hl with | [_, _, _, _], _ => rfl
  have F_side_leads := fun_mk (st := s_side_leads) l_side_leads c_side_leads k_side_leads
  have b_side_leads := F_side_leads.binds (ps := ["p", "hold", "rows"]) fun _ _ _ _ _ _ us hl => match us, hl with | [_, _, _], _ => rfl
  have F_table_of := fun_mk (st := s_table_of) l_table_of c_table_of k_table_of
  have b_table_of := F_table_of.binds (ps := ["p", "hold", "rows"]) fun _ _ _ _ _ _ us hl => match us, hl with | [_, _, _], _ => rfl
  have F_rows_by_table := fun_mk (st := s_rows_by_table) l_rows_by_table c_rows_by_table k_rows_by_table
  have b_rows_by_table := F_rows_by_table.binds (ps := ["p", "hold", "table"]) fun _ _ _ _ _ _ us hl => match us, hl with | [_, _, _], _ => rfl
  have F_still_rows := fun_mk (st := s_still_rows) l_still_rows c_still_rows k_still_rows
  have b_still_rows := F_still_rows.binds (ps := ["p", "hold", "rows"]) fun _ _ _ _ _ _ us hl => match us, hl with | [_, _, _], _ => rfl
  have F_still_hands := fun_mk (st := s_still_hands) l_still_hands c_still_hands k_still_hands
  have b_still_hands := F_still_hands.binds (ps := ["thing", "hold"]) fun _ _ _ _ _ _ us hl => match us, hl with | [_, _], _ => rfl
  have F_table := fun_mk (st := s_table) l_table c_table k_table
  have b_table := F_table.binds (ps := ["thing", "hold"]) fun _ _ _ _ _ _ us hl => match us, hl with | [_, _], _ => rfl
  have F_read := fun_mk (st := s_read) l_read c_read k_read
  have b_read := F_read.binds (ps := ["thing", "hold", "numbers"]) fun _ _ _ _ _ _ us hl => match us, hl with | [_, _, _], _ => rfl
  have F_stepped := fun_mk (st := s_stepped) l_stepped c_stepped k_stepped
  have b_stepped := F_stepped.binds (ps := ["thing", "hold", "wires", "numbers"]) fun _ _ _ _ _ _ us hl => match us, hl with | [_, _, _, _], _ => rfl
  have F_units := fun_mk (st := s_units) l_units c_units k_units
  have b_units := F_units.binds (ps := ["many"]) fun _ _ _ _ _ _ us hl => match us, hl with | [_], _ => rfl
  have F_moved := fun_mk (st := s_moved) l_moved c_moved k_moved
  have b_moved := F_moved.binds (ps := ["p", "rule", "numbers"]) fun _ _ _ _ _ _ us hl => match us, hl with | [_, _, _], _ => rfl
  have F_rule_of := fun_mk (st := s_rule_of) l_rule_of c_rule_of k_rule_of
  have b_rule_of := F_rule_of.binds (ps := ["thing", "hold", "wires"]) fun _ _ _ _ _ _ us hl => match us, hl with | [_, _, _], _ => rfl
  have F_round_of := fun_mk (st := s_round_of) l_round_of c_round_of k_round_of
  have b_round_of := F_round_of.binds (ps := ["thing", "hold", "wires", "numbers"]) fun _ _ _ _ _ _ us hl => match us, hl with | [_, _, _, _], _ => rfl
  have F_posts_of := fun_mk (st := s_posts_of) l_posts_of c_posts_of k_posts_of
  have b_posts_of := F_posts_of.binds (ps := ["rows"]) fun _ _ _ _ _ _ us hl => match us, hl with | [_], _ => rfl
  have F_are_rows := fun_mk (st := s_are_rows) l_are_rows c_are_rows k_are_rows
  have b_are_rows := F_are_rows.binds (ps := ["p", "thing"]) fun _ _ _ _ _ _ us hl => match us, hl with | [_, _], _ => rfl
  have F_first_unfair := fun_mk (st := s_first_unfair) l_first_unfair c_first_unfair k_first_unfair
  have b_first_unfair := F_first_unfair.binds (ps := ["p", "rows"]) fun _ _ _ _ _ _ us hl => match us, hl with | [_, _], _ => rfl
  have F__law_deck := fun_mk (st := s__law_deck) l__law_deck c__law_deck k__law_deck
  have b__law_deck := F__law_deck.binds (ps := ["_law_script"]) fun _ _ _ _ _ _ us hl => match us, hl with | [_], _ => rfl
  have F__law_next := fun_mk (st := s__law_next) l__law_next c__law_next k__law_next
  have b__law_next := F__law_next.binds (ps := ["_law_deck_here", "_law_many"]) fun _ _ _ _ _ _ us hl => match us, hl with | [_, _], _ => rfl
  have F__law_prime := fun_mk (st := s__law_prime) l__law_prime c__law_prime k__law_prime
  have b__law_prime := F__law_prime.binds (ps := ["_law_deck_here"]) fun _ _ _ _ _ _ us hl => match us, hl with | [_], _ => rfl
  have F__law_numbers := fun_mk (st := s__law_numbers) l__law_numbers c__law_numbers k__law_numbers
  have b__law_numbers := F__law_numbers.binds (ps := ["_law_deck_here", "_law_p", "_law_many"]) fun _ _ _ _ _ _ us hl => match us, hl with | [_, _, _], _ => rfl
  have F__law_hold := fun_mk (st := s__law_hold) l__law_hold c__law_hold k__law_hold
  have b__law_hold := F__law_hold.binds (ps := ["_law_deck_here", "_law_posts"]) fun _ _ _ _ _ _ us hl => match us, hl with | [_, _], _ => rfl
  have F__law_table := fun_mk (st := s__law_table) l__law_table c__law_table k__law_table
  have b__law_table := F__law_table.binds (ps := ["_law_deck_here", "_law_p", "_law_posts"]) fun _ _ _ _ _ _ us hl => match us, hl with | [_, _, _], _ => rfl
  have F__law_stand := fun_mk (st := s__law_stand) l__law_stand c__law_stand k__law_stand
  have b__law_stand := F__law_stand.binds (ps := ["_law_p", "_law_hold_here", "_law_grid", "_law_held"]) fun _ _ _ _ _ _ us hl => match us, hl with | [_, _, _, _], _ => rfl
  have F__law_units := fun_mk (st := s__law_units) l__law_units c__law_units k__law_units
  have b__law_units := F__law_units.binds (ps := ["_law_p", "_law_hold_here", "_law_grid"]) fun _ _ _ _ _ _ us hl => match us, hl with | [_, _, _], _ => rfl
  have F__law_added := fun_mk (st := s__law_added) l__law_added c__law_added k__law_added
  have b__law_added := F__law_added.binds (ps := ["_law_p", "_law_one", "_law_other"]) fun _ _ _ _ _ _ us hl => match us, hl with | [_, _, _], _ => rfl
  have F__law_times := fun_mk (st := s__law_times) l__law_times c__law_times k__law_times
  have b__law_times := F__law_times.binds (ps := ["_law_p", "_law_number", "_law_row"]) fun _ _ _ _ _ _ us hl => match us, hl with | [_, _, _], _ => rfl
  have F__law_stirred := fun_mk (st := s__law_stirred) l__law_stirred c__law_stirred k__law_stirred
  have b__law_stirred := F__law_stirred.binds (ps := ["_law_deck_here", "_law_p", "_law_posts", "_law_rows"]) fun _ _ _ _ _ _ us hl => match us, hl with | [_, _, _, _], _ => rfl
  have F__law_step := fun_mk (st := s__law_step) l__law_step c__law_step k__law_step
  have b__law_step := F__law_step.binds (ps := ["_law_p", "_law_sides", "_law_grid", "_law_wires_here", "_law_held"]) fun _ _ _ _ _ _ us hl => match us, hl with | [_, _, _, _, _], _ => rfl
  have F__law_wires := fun_mk (st := s__law_wires) l__law_wires c__law_wires k__law_wires
  have b__law_wires := F__law_wires.binds (ps := ["_law_deck_here", "_law_posts"]) fun _ _ _ _ _ _ us hl => match us, hl with | [_, _], _ => rfl
  have F__law_led := fun_mk (st := s__law_led) l__law_led c__law_led k__law_led
  have b__law_led := F__law_led.binds (ps := ["_law_p", "_law_sides", "_law_grid", "_law_wires_here"]) fun _ _ _ _ _ _ us hl => match us, hl with | [_, _, _, _], _ => rfl
  have F__law_gone_round := fun_mk (st := s__law_gone_round) l__law_gone_round c__law_gone_round k__law_gone_round
  have b__law_gone_round := F__law_gone_round.binds (ps := ["_law_p", "_law_images", "_law_held"]) fun _ _ _ _ _ _ us hl => match us, hl with | [_, _, _], _ => rfl
  have F__law_asked := fun_mk (st := s__law_asked) l__law_asked c__law_asked k__law_asked
  have b__law_asked := F__law_asked.binds (ps := ["_law_thing", "_law_sides", "_law_wires_here", "_law_held"]) fun _ _ _ _ _ _ us hl => match us, hl with | [_, _, _, _], _ => rfl
  have F_law := fun_mk (st := s_law) l_law c_law k_law
  have b_law := F_law.binds (ps := ["_law_script"]) fun _ _ _ _ _ _ us hl => match us, hl with | [_], _ => rfl
  have F_Thing___init__ := fun_mk (st := s_Thing___init__) l_Thing___init__ c_Thing___init__ k_Thing___init__
  have b_Thing___init__ := F_Thing___init__.binds (ps := ["self", "p", "rows"]) fun _ _ _ _ _ _ us hl => match us, hl with | [_, _, _], _ => rfl
  have F_Thing_p := fun_mk (st := s_Thing_p) l_Thing_p c_Thing_p k_Thing_p
  have b_Thing_p := F_Thing_p.binds (ps := ["self"]) fun _ _ _ _ _ _ us hl => match us, hl with | [_], _ => rfl
  have F_Thing_rows := fun_mk (st := s_Thing_rows) l_Thing_rows c_Thing_rows k_Thing_rows
  have b_Thing_rows := F_Thing_rows.binds (ps := ["self"]) fun _ _ _ _ _ _ us hl => match us, hl with | [_], _ => rfl
  have F_TooMany___init__ := fun_mk (st := s_TooMany___init__) l_TooMany___init__ c_TooMany___init__ k_TooMany___init__
  have b_TooMany___init__ := F_TooMany___init__.binds (ps := ["self", "bound"]) fun _ _ _ _ _ _ us hl => match us, hl with | [_, _], _ => rfl
  let A : Ad := ⟨f_is_whole, PySem.W.fnOf "is_whole" "is_whole" (defArgs s_is_whole) (defBody s_is_whole) (defScope s_is_whole) .none kV_is_whole dc_is_whole pm_is_whole an_is_whole cd_is_whole ct_is_whole, f_is_prime, PySem.W.fnOf "is_prime" "is_prime" (defArgs s_is_prime) (defBody s_is_prime) (defScope s_is_prime) .none kV_is_prime dc_is_prime pm_is_prime an_is_prime cd_is_prime ct_is_prime, f_is_round, PySem.W.fnOf "is_round" "is_round" (defArgs s_is_round) (defBody s_is_round) (defScope s_is_round) .none kV_is_round dc_is_round pm_is_round an_is_round cd_is_round ct_is_round, f_inverse, PySem.W.fnOf "inverse" "inverse" (defArgs s_inverse) (defBody s_inverse) (defScope s_inverse) .none kV_inverse dc_inverse pm_inverse an_inverse cd_inverse ct_inverse, f_is_pair, PySem.W.fnOf "is_pair" "is_pair" (defArgs s_is_pair) (defBody s_is_pair) (defScope s_is_pair) .none kV_is_pair dc_is_pair pm_is_pair an_is_pair cd_is_pair ct_is_pair, f_is_row, PySem.W.fnOf "is_row" "is_row" (defArgs s_is_row) (defBody s_is_row) (defScope s_is_row) .none kV_is_row dc_is_row pm_is_row an_is_row cd_is_row ct_is_row, f_nought, PySem.W.fnOf "nought" "nought" (defArgs s_nought) (defBody s_nought) (defScope s_nought) .none kV_nought dc_nought pm_nought an_nought cd_nought ct_nought, f_added, PySem.W.fnOf "added" "added" (defArgs s_added) (defBody s_added) (defScope s_added) .none kV_added dc_added pm_added an_added (.ref q_added) ct_added, f_times, PySem.W.fnOf "times" "times" (defArgs s_times) (defBody s_times) (defScope s_times) .none kV_times dc_times pm_times an_times (.ref q_times) ct_times, f_meet, PySem.W.fnOf "meet" "meet" (defArgs s_meet) (defBody s_meet) (defScope s_meet) .none kV_meet dc_meet pm_meet an_meet cd_meet ct_meet, f_flat_of, PySem.W.fnOf "flat_of" "flat_of" (defArgs s_flat_of) (defBody s_flat_of) (defScope s_flat_of) .none kV_flat_of dc_flat_of pm_flat_of an_flat_of cd_flat_of ct_flat_of, f_row_of, PySem.W.fnOf "row_of" "row_of" (defArgs s_row_of) (defBody s_row_of) (defScope s_row_of) .none kV_row_of dc_row_of pm_row_of an_row_of (.ref q_row_of) ct_row_of, f_first_place, PySem.W.fnOf "first_place" "first_place" (defArgs s_first_place) (defBody s_first_place) (defScope s_first_place) .none kV_first_place dc_first_place pm_first_place an_first_place cd_first_place ct_first_place, f_lessened, PySem.W.fnOf "lessened" "lessened" (defArgs s_lessened) (defBody s_lessened) (defScope s_lessened) .none kV_lessened dc_lessened pm_lessened an_lessened cd_lessened ct_lessened, f_cleared, PySem.W.fnOf "cleared" "cleared" (defArgs s_cleared) (defBody s_cleared) (defScope s_cleared) .none kV_cleared dc_cleared pm_cleared an_cleared cd_cleared ct_cleared, f_leads_of, PySem.W.fnOf "leads_of" "leads_of" (defArgs s_leads_of) (defBody s_leads_of) (defScope s_leads_of) .none kV_leads_of dc_leads_of pm_leads_of an_leads_of cd_leads_of ct_leads_of, f_row_leads, PySem.W.fnOf "row_leads" "row_leads" (defArgs s_row_leads) (defBody s_row_leads) (defScope s_row_leads) .none kV_row_leads dc_row_leads pm_row_leads an_row_leads cd_row_leads ct_row_leads, f_plain, PySem.W.fnOf "plain" "plain" (defArgs s_plain) (defBody s_plain) (defScope s_plain) .none kV_plain dc_plain pm_plain an_plain cd_plain ct_plain, f_together, PySem.W.fnOf "together" "together" (defArgs s_together) (defBody s_together) (defScope s_together) .none kV_together dc_together pm_together an_together cd_together ct_together, f_sided, PySem.W.fnOf "sided" "sided" (defArgs s_sided) (defBody s_sided) (defScope s_sided) .none kV_sided dc_sided pm_sided an_sided cd_sided ct_sided, f_row_of_sides, PySem.W.fnOf "row_of_sides" "row_of_sides" (defArgs s_row_of_sides) (defBody s_row_of_sides) (defScope s_row_of_sides) .none kV_row_of_sides dc_row_of_sides pm_row_of_sides an_row_of_sides (.ref q_row_of_sides) ct_row_of_sides, f_side_leads, PySem.W.fnOf "side_leads" "side_leads" (defArgs s_side_leads) (defBody s_side_leads) (defScope s_side_leads) .none kV_side_leads dc_side_leads pm_side_leads an_side_leads cd_side_leads ct_side_leads, f_table_of, PySem.W.fnOf "table_of" "table_of" (defArgs s_table_of) (defBody s_table_of) (defScope s_table_of) .none kV_table_of dc_table_of pm_table_of an_table_of (.ref q_table_of) ct_table_of, f_rows_by_table, PySem.W.fnOf "rows_by_table" "rows_by_table" (defArgs s_rows_by_table) (defBody s_rows_by_table) (defScope s_rows_by_table) .none kV_rows_by_table dc_rows_by_table pm_rows_by_table an_rows_by_table cd_rows_by_table ct_rows_by_table, f_still_rows, PySem.W.fnOf "still_rows" "still_rows" (defArgs s_still_rows) (defBody s_still_rows) (defScope s_still_rows) .none kV_still_rows dc_still_rows pm_still_rows an_still_rows cd_still_rows ct_still_rows, f_still_hands, PySem.W.fnOf "still_hands" "still_hands" (defArgs s_still_hands) (defBody s_still_hands) (defScope s_still_hands) .none kV_still_hands dc_still_hands pm_still_hands an_still_hands cd_still_hands ct_still_hands, f_table, PySem.W.fnOf "table" "table" (defArgs s_table) (defBody s_table) (defScope s_table) .none kV_table dc_table pm_table an_table cd_table ct_table, f_read, PySem.W.fnOf "read" "read" (defArgs s_read) (defBody s_read) (defScope s_read) .none kV_read dc_read pm_read an_read cd_read ct_read, f_stepped, PySem.W.fnOf "stepped" "stepped" (defArgs s_stepped) (defBody s_stepped) (defScope s_stepped) .none kV_stepped dc_stepped pm_stepped an_stepped (.ref q_stepped) ct_stepped, f_units, PySem.W.fnOf "units" "units" (defArgs s_units) (defBody s_units) (defScope s_units) .none kV_units dc_units pm_units an_units (.ref q_units) ct_units, f_moved, PySem.W.fnOf "moved" "moved" (defArgs s_moved) (defBody s_moved) (defScope s_moved) .none kV_moved dc_moved pm_moved an_moved (.ref q_moved) ct_moved, f_rule_of, PySem.W.fnOf "rule_of" "rule_of" (defArgs s_rule_of) (defBody s_rule_of) (defScope s_rule_of) .none kV_rule_of dc_rule_of pm_rule_of an_rule_of cd_rule_of ct_rule_of, f_round_of, PySem.W.fnOf "round_of" "round_of" (defArgs s_round_of) (defBody s_round_of) (defScope s_round_of) .none kV_round_of dc_round_of pm_round_of an_round_of cd_round_of ct_round_of, f_posts_of, PySem.W.fnOf "posts_of" "posts_of" (defArgs s_posts_of) (defBody s_posts_of) (defScope s_posts_of) .none kV_posts_of dc_posts_of pm_posts_of an_posts_of cd_posts_of ct_posts_of, f_are_rows, PySem.W.fnOf "are_rows" "are_rows" (defArgs s_are_rows) (defBody s_are_rows) (defScope s_are_rows) .none kV_are_rows dc_are_rows pm_are_rows an_are_rows cd_are_rows ct_are_rows, f_first_unfair, PySem.W.fnOf "first_unfair" "first_unfair" (defArgs s_first_unfair) (defBody s_first_unfair) (defScope s_first_unfair) .none kV_first_unfair dc_first_unfair pm_first_unfair an_first_unfair cd_first_unfair ct_first_unfair, f__law_deck, PySem.W.fnOf "_law_deck" "_law_deck" (defArgs s__law_deck) (defBody s__law_deck) (defScope s__law_deck) .none kV__law_deck dc__law_deck pm__law_deck an__law_deck cd__law_deck ct__law_deck, f__law_next, PySem.W.fnOf "_law_next" "_law_next" (defArgs s__law_next) (defBody s__law_next) (defScope s__law_next) .none kV__law_next dc__law_next pm__law_next an__law_next cd__law_next ct__law_next, f__law_prime, PySem.W.fnOf "_law_prime" "_law_prime" (defArgs s__law_prime) (defBody s__law_prime) (defScope s__law_prime) .none kV__law_prime dc__law_prime pm__law_prime an__law_prime cd__law_prime ct__law_prime, f__law_numbers, PySem.W.fnOf "_law_numbers" "_law_numbers" (defArgs s__law_numbers) (defBody s__law_numbers) (defScope s__law_numbers) .none kV__law_numbers dc__law_numbers pm__law_numbers an__law_numbers cd__law_numbers ct__law_numbers, f__law_hold, PySem.W.fnOf "_law_hold" "_law_hold" (defArgs s__law_hold) (defBody s__law_hold) (defScope s__law_hold) .none kV__law_hold dc__law_hold pm__law_hold an__law_hold cd__law_hold ct__law_hold, f__law_table, PySem.W.fnOf "_law_table" "_law_table" (defArgs s__law_table) (defBody s__law_table) (defScope s__law_table) .none kV__law_table dc__law_table pm__law_table an__law_table cd__law_table ct__law_table, f__law_stand, PySem.W.fnOf "_law_stand" "_law_stand" (defArgs s__law_stand) (defBody s__law_stand) (defScope s__law_stand) .none kV__law_stand dc__law_stand pm__law_stand an__law_stand cd__law_stand ct__law_stand, f__law_units, PySem.W.fnOf "_law_units" "_law_units" (defArgs s__law_units) (defBody s__law_units) (defScope s__law_units) .none kV__law_units dc__law_units pm__law_units an__law_units cd__law_units ct__law_units, f__law_added, PySem.W.fnOf "_law_added" "_law_added" (defArgs s__law_added) (defBody s__law_added) (defScope s__law_added) .none kV__law_added dc__law_added pm__law_added an__law_added cd__law_added ct__law_added, f__law_times, PySem.W.fnOf "_law_times" "_law_times" (defArgs s__law_times) (defBody s__law_times) (defScope s__law_times) .none kV__law_times dc__law_times pm__law_times an__law_times cd__law_times ct__law_times, f__law_stirred, PySem.W.fnOf "_law_stirred" "_law_stirred" (defArgs s__law_stirred) (defBody s__law_stirred) (defScope s__law_stirred) .none kV__law_stirred dc__law_stirred pm__law_stirred an__law_stirred cd__law_stirred ct__law_stirred, f__law_step, PySem.W.fnOf "_law_step" "_law_step" (defArgs s__law_step) (defBody s__law_step) (defScope s__law_step) .none kV__law_step dc__law_step pm__law_step an__law_step cd__law_step ct__law_step, f__law_wires, PySem.W.fnOf "_law_wires" "_law_wires" (defArgs s__law_wires) (defBody s__law_wires) (defScope s__law_wires) .none kV__law_wires dc__law_wires pm__law_wires an__law_wires cd__law_wires ct__law_wires, f__law_led, PySem.W.fnOf "_law_led" "_law_led" (defArgs s__law_led) (defBody s__law_led) (defScope s__law_led) .none kV__law_led dc__law_led pm__law_led an__law_led cd__law_led ct__law_led, f__law_gone_round, PySem.W.fnOf "_law_gone_round" "_law_gone_round" (defArgs s__law_gone_round) (defBody s__law_gone_round) (defScope s__law_gone_round) .none kV__law_gone_round dc__law_gone_round pm__law_gone_round an__law_gone_round cd__law_gone_round ct__law_gone_round, f__law_asked, PySem.W.fnOf "_law_asked" "_law_asked" (defArgs s__law_asked) (defBody s__law_asked) (defScope s__law_asked) .none kV__law_asked dc__law_asked pm__law_asked an__law_asked cd__law_asked ct__law_asked, fa, PySem.W.fnOf "law" "law" (defArgs s_law) (defBody s_law) (defScope s_law) .none kV_law dc_law pm_law an_law cd_law ct_law, c_PRIMES, 0, 0, f_Thing___init__, PySem.W.fnOf "__init__" "Thing.__init__" (defArgs s_Thing___init__) (defBody s_Thing___init__) (defScope s_Thing___init__) .none kV_Thing___init__ dc_Thing___init__ pm_Thing___init__ an_Thing___init__ cd_Thing___init__ ct_Thing___init__, f_Thing_p, PySem.W.fnOf "p" "Thing.p" (defArgs s_Thing_p) (defBody s_Thing_p) (defScope s_Thing_p) .none kV_Thing_p dc_Thing_p pm_Thing_p an_Thing_p cd_Thing_p ct_Thing_p, f_Thing_rows, PySem.W.fnOf "rows" "Thing.rows" (defArgs s_Thing_rows) (defBody s_Thing_rows) (defScope s_Thing_rows) .none kV_Thing_rows dc_Thing_rows pm_Thing_rows an_Thing_rows cd_Thing_rows ct_Thing_rows, f_TooMany___init__, PySem.W.fnOf "__init__" "TooMany.__init__" (defArgs s_TooMany___init__) (defBody s_TooMany___init__) (defScope s_TooMany___init__) .none kV_TooMany___init__ dc_TooMany___init__ pm_TooMany___init__ an_TooMany___init__ cd_TooMany___init__ ct_TooMany___init__, c_Thing, c_PostError, c_BadThing, c_BadPost, c_BadNumber, c_Still, c_TooMany⟩
  let C : Cd := ⟨q_added, p_added, q_times, p_times, q_row_of, p_row_of, q_row_of_sides, p_row_of_sides, q_table_of, p_table_of, q_stepped, p_stepped, q_units, p_units, q_moved, p_moved⟩
  have T : Tx K mg A := ⟨⟨F_is_whole, b_is_whole, PySem.W.mg_of X G a_is_whole⟩, ⟨F_is_prime, b_is_prime, PySem.W.mg_of X G a_is_prime⟩, ⟨F_is_round, b_is_round, PySem.W.mg_of X G a_is_round⟩, ⟨F_inverse, b_inverse, PySem.W.mg_of X G a_inverse⟩, ⟨F_is_pair, b_is_pair, PySem.W.mg_of X G a_is_pair⟩, ⟨F_is_row, b_is_row, PySem.W.mg_of X G a_is_row⟩, ⟨F_nought, b_nought, PySem.W.mg_of X G a_nought⟩, ⟨F_added, b_added, PySem.W.mg_of X G a_added⟩, ⟨F_times, b_times, PySem.W.mg_of X G a_times⟩, ⟨F_meet, b_meet, PySem.W.mg_of X G a_meet⟩, ⟨F_flat_of, b_flat_of, PySem.W.mg_of X G a_flat_of⟩, ⟨F_row_of, b_row_of, PySem.W.mg_of X G a_row_of⟩, ⟨F_first_place, b_first_place, PySem.W.mg_of X G a_first_place⟩, ⟨F_lessened, b_lessened, PySem.W.mg_of X G a_lessened⟩, ⟨F_cleared, b_cleared, PySem.W.mg_of X G a_cleared⟩, ⟨F_leads_of, b_leads_of, PySem.W.mg_of X G a_leads_of⟩, ⟨F_row_leads, b_row_leads, PySem.W.mg_of X G a_row_leads⟩, ⟨F_plain, b_plain, PySem.W.mg_of X G a_plain⟩, ⟨F_together, b_together, PySem.W.mg_of X G a_together⟩, ⟨F_sided, b_sided, PySem.W.mg_of X G a_sided⟩, ⟨F_row_of_sides, b_row_of_sides, PySem.W.mg_of X G a_row_of_sides⟩, ⟨F_side_leads, b_side_leads, PySem.W.mg_of X G a_side_leads⟩, ⟨F_table_of, b_table_of, PySem.W.mg_of X G a_table_of⟩, ⟨F_rows_by_table, b_rows_by_table, PySem.W.mg_of X G a_rows_by_table⟩, ⟨F_still_rows, b_still_rows, PySem.W.mg_of X G a_still_rows⟩, ⟨F_still_hands, b_still_hands, PySem.W.mg_of X G a_still_hands⟩, ⟨F_table, b_table, PySem.W.mg_of X G a_table⟩, ⟨F_read, b_read, PySem.W.mg_of X G a_read⟩, ⟨F_stepped, b_stepped, PySem.W.mg_of X G a_stepped⟩, ⟨F_units, b_units, PySem.W.mg_of X G a_units⟩, ⟨F_moved, b_moved, PySem.W.mg_of X G a_moved⟩, ⟨F_rule_of, b_rule_of, PySem.W.mg_of X G a_rule_of⟩, ⟨F_round_of, b_round_of, PySem.W.mg_of X G a_round_of⟩, ⟨F_posts_of, b_posts_of, PySem.W.mg_of X G a_posts_of⟩, ⟨F_are_rows, b_are_rows, PySem.W.mg_of X G a_are_rows⟩, ⟨F_first_unfair, b_first_unfair, PySem.W.mg_of X G a_first_unfair⟩, ⟨F__law_deck, b__law_deck, PySem.W.mg_of X G a__law_deck⟩, ⟨F__law_next, b__law_next, PySem.W.mg_of X G a__law_next⟩, ⟨F__law_prime, b__law_prime, PySem.W.mg_of X G a__law_prime⟩, ⟨F__law_numbers, b__law_numbers, PySem.W.mg_of X G a__law_numbers⟩, ⟨F__law_hold, b__law_hold, PySem.W.mg_of X G a__law_hold⟩, ⟨F__law_table, b__law_table, PySem.W.mg_of X G a__law_table⟩, ⟨F__law_stand, b__law_stand, PySem.W.mg_of X G a__law_stand⟩, ⟨F__law_units, b__law_units, PySem.W.mg_of X G a__law_units⟩, ⟨F__law_added, b__law_added, PySem.W.mg_of X G a__law_added⟩, ⟨F__law_times, b__law_times, PySem.W.mg_of X G a__law_times⟩, ⟨F__law_stirred, b__law_stirred, PySem.W.mg_of X G a__law_stirred⟩, ⟨F__law_step, b__law_step, PySem.W.mg_of X G a__law_step⟩, ⟨F__law_wires, b__law_wires, PySem.W.mg_of X G a__law_wires⟩, ⟨F__law_led, b__law_led, PySem.W.mg_of X G a__law_led⟩, ⟨F__law_gone_round, b__law_gone_round, PySem.W.mg_of X G a__law_gone_round⟩, ⟨F__law_asked, b__law_asked, PySem.W.mg_of X G a__law_asked⟩, ⟨F_law, b_law, PySem.W.mg_of X G a_law⟩, PySem.W.mg_none_of X G z_abs, PySem.W.mg_none_of X G z_all, PySem.W.mg_none_of X G z_any, PySem.W.mg_none_of X G z_bool, PySem.W.mg_none_of X G z_enumerate, PySem.W.mg_none_of X G z_int, PySem.W.mg_none_of X G z_isinstance, PySem.W.mg_none_of X G z_len, PySem.W.mg_none_of X G z_list, PySem.W.mg_none_of X G z_range, PySem.W.mg_none_of X G z_repr, PySem.W.mg_none_of X G z_sorted, PySem.W.mg_none_of X G z_sum, PySem.W.mg_none_of X G z_tuple, PySem.W.mg_none_of X G z_zip, PySem.W.mg_of X G e_PRIMES, ⟨_, _, _, _, h_PRIMES, .cons ⟨_, rfl⟩ (.cons ⟨_, rfl⟩ (.cons ⟨_, rfl⟩ (.cons ⟨_, rfl⟩ (.cons ⟨_, rfl⟩ (.cons ⟨_, rfl⟩ (.nil))))))⟩, ⟨_, PySem.W.mg_of X G e_POSTS⟩, ⟨_, PySem.W.mg_of X G e_ROUNDS⟩, ⟨F_Thing___init__, b_Thing___init__, a_Thing___init__, i_Thing___init__, k_Thing___init__⟩, ⟨F_Thing_p, b_Thing_p, a_Thing_p, i_Thing_p, k_Thing_p⟩, ⟨F_Thing_rows, b_Thing_rows, a_Thing_rows, i_Thing_rows, k_Thing_rows⟩, PySem.W.mg_of X G g_Thing, ⟨pg_Thing, hd_Thing, po_Thing, sa_Thing⟩, ⟨mk_Thing, a_Thing___init__, i_Thing___init__, kc_Thing⟩, n_Thing_prime, n_Thing_lot, ne_Thing, ob_Thing, ca_Thing, k_get, k_tak, PySem.W.mg_of X G g_PostError, PySem.W.mg_of X G g_BadThing, PySem.W.mg_of X G g_BadPost, PySem.W.mg_of X G g_BadNumber, PySem.W.mg_of X G g_Still, PySem.W.mg_of X G g_TooMany, ⟨F_TooMany___init__, b_TooMany___init__⟩, ⟨⟨⟨_, _, _, _, _, _, _, _, _, _, _, _, _, _, _, x_TooMany, rfl⟩, sa_TooMany, ex_TooMany, ty_TooMany, kp_TooMany⟩, ga_TooMany, gg_TooMany, hd_TooMany, ca_TooMany, ob_TooMany, ss_TooMany, ve_TooMany⟩, i_TooMany___init__, t_TooMany___init__, n_TooMany_bound, u_TooMany_PostError, u_TooMany_BadNumber, u_TooMany_BadPost, u_TooMany_BadThing, u_TooMany_Still, ⟨bs_PostError, br_PostError, bf_PostError⟩, ⟨k_get, k_tak⟩, ⟨kc_PostError, kt_PostError, kb_PostError⟩, ⟨kc_TooMany, kt_TooMany, kb_TooMany⟩, ⟨kc_BadNumber, kt_BadNumber, kb_BadNumber⟩, ⟨kc_BadPost, kt_BadPost, kb_BadPost⟩, ⟨kc_BadThing, kt_BadThing, kb_BadThing⟩, ⟨kc_Still, kt_Still, kb_Still⟩⟩
  have w_added := own_at own (by simp) X (PySem.W.mg_of X G a_added) l_added rfl u_added g_added
  have w_times := own_at own (by simp) X (PySem.W.mg_of X G a_times) l_times rfl u_times g_times
  have w_row_of := own_at own (by simp) X (PySem.W.mg_of X G a_row_of) l_row_of rfl u_row_of g_row_of
  have w_row_of_sides := own_at own (by simp) X (PySem.W.mg_of X G a_row_of_sides) l_row_of_sides rfl u_row_of_sides g_row_of_sides
  have w_table_of := own_at own (by simp) X (PySem.W.mg_of X G a_table_of) l_table_of rfl u_table_of g_table_of
  have w_stepped := own_at own (by simp) X (PySem.W.mg_of X G a_stepped) l_stepped rfl u_stepped g_stepped
  have w_units := own_at own (by simp) X (PySem.W.mg_of X G a_units) l_units rfl u_units g_units
  have w_moved := own_at own (by simp) X (PySem.W.mg_of X G a_moved) l_moved rfl u_moved g_moved
  refine ⟨[(q_added, p_added), (q_times, p_times), (q_row_of, p_row_of), (q_row_of_sides, p_row_of_sides), (q_table_of, p_table_of), (q_stepped, p_stepped), (q_units, p_units), (q_moved, p_moved)], List.forall_mem_cons.mpr ⟨w_added.2, List.forall_mem_cons.mpr ⟨w_times.2, List.forall_mem_cons.mpr ⟨w_row_of.2, List.forall_mem_cons.mpr ⟨w_row_of_sides.2, List.forall_mem_cons.mpr ⟨w_table_of.2, List.forall_mem_cons.mpr ⟨w_stepped.2, List.forall_mem_cons.mpr ⟨w_units.2, List.forall_mem_cons.mpr ⟨w_moved.2, fun _ z => by cases z⟩⟩⟩⟩⟩⟩⟩⟩, List.forall_mem_cons.mpr ⟨n_added, List.forall_mem_cons.mpr ⟨n_times, List.forall_mem_cons.mpr ⟨n_row_of, List.forall_mem_cons.mpr ⟨n_row_of_sides, List.forall_mem_cons.mpr ⟨n_table_of, List.forall_mem_cons.mpr ⟨n_stepped, List.forall_mem_cons.mpr ⟨n_units, List.forall_mem_cons.mpr ⟨n_moved, fun _ z => by cases z⟩⟩⟩⟩⟩⟩⟩⟩, List.forall_mem_cons.mpr ⟨w_added.1, List.forall_mem_cons.mpr ⟨w_times.1, List.forall_mem_cons.mpr ⟨w_row_of.1, List.forall_mem_cons.mpr ⟨w_row_of_sides.1, List.forall_mem_cons.mpr ⟨w_table_of.1, List.forall_mem_cons.mpr ⟨w_stepped.1, List.forall_mem_cons.mpr ⟨w_units.1, List.forall_mem_cons.mpr ⟨w_moved.1, fun _ z => by cases z⟩⟩⟩⟩⟩⟩⟩⟩, ok_law T (C := C) fun base TB => ?_⟩
  exact ⟨TB (q_added, p_added) (.head _), ⟨_, _, _, _, _, _, _, _, rfl, l_added, c_added⟩, TB (q_times, p_times) (.tail _ (.head _)), ⟨_, _, _, _, _, _, _, _, rfl, l_times, c_times⟩, TB (q_row_of, p_row_of) (.tail _ (.tail _ (.head _))), ⟨_, _, _, _, _, _, _, _, rfl, l_row_of, c_row_of⟩, TB (q_row_of_sides, p_row_of_sides) (.tail _ (.tail _ (.tail _ (.head _)))), ⟨_, _, _, _, _, _, _, _, rfl, l_row_of_sides, c_row_of_sides⟩, TB (q_table_of, p_table_of) (.tail _ (.tail _ (.tail _ (.tail _ (.head _))))), ⟨_, _, _, _, _, _, _, _, rfl, l_table_of, c_table_of⟩, TB (q_stepped, p_stepped) (.tail _ (.tail _ (.tail _ (.tail _ (.tail _ (.head _)))))), ⟨_, _, _, _, _, _, _, _, rfl, l_stepped, c_stepped⟩, TB (q_units, p_units) (.tail _ (.tail _ (.tail _ (.tail _ (.tail _ (.tail _ (.head _))))))), ⟨_, _, _, _, _, _, _, _, rfl, l_units, c_units⟩, TB (q_moved, p_moved) (.tail _ (.tail _ (.tail _ (.tail _ (.tail _ (.tail _ (.tail _ (.head _)))))))), ⟨_, _, _, _, _, _, _, _, rfl, l_moved, c_moved⟩⟩
end Kp

open PySem PySem.W PyProof.Rows in
set_option maxRecDepth 100000 in
set_option maxHeartbeats 0 in
theorem PySem.Challenge.cw_fairposts_k85_round_and_round_holds : PySem.Challenge.rw_fairposts_k85_round_and_round.Holds := by
  w_on; o_law; k_head; (case hw => w_witness2)
  k_fill
  refine Kp.walk_gT (l := PySem.Challenge.rw_fairposts_k85_round_and_round) ["added", "times", "row_of", "row_of_sides", "table_of", "stepped", "units", "moved"] rfl rfl (by decide +kernel) (by decide +kernel) (fun w h Y => PySem.W.kIn_of Y) ?F
  case F =>
    intro w mg fa h KX G hmg own
    refine' Kp.all_mk KX G hmg own ?a_is_whole ?l_is_whole ?c_is_whole ?k_is_whole ?a_is_prime ?l_is_prime ?c_is_prime ?k_is_prime ?a_is_round ?l_is_round ?c_is_round ?k_is_round ?a_inverse ?l_inverse ?c_inverse ?k_inverse ?a_is_pair ?l_is_pair ?c_is_pair ?k_is_pair ?a_is_row ?l_is_row ?c_is_row ?k_is_row ?a_nought ?l_nought ?c_nought ?k_nought ?a_added ?l_added ?c_added ?k_added ?u_added ?g_added ?n_added ?a_times ?l_times ?c_times ?k_times ?u_times ?g_times ?n_times ?a_meet ?l_meet ?c_meet ?k_meet ?a_flat_of ?l_flat_of ?c_flat_of ?k_flat_of ?a_row_of ?l_row_of ?c_row_of ?k_row_of ?u_row_of ?g_row_of ?n_row_of ?a_first_place ?l_first_place ?c_first_place ?k_first_place ?a_lessened ?l_lessened ?c_lessened ?k_lessened ?a_cleared ?l_cleared ?c_cleared ?k_cleared ?a_leads_of ?l_leads_of ?c_leads_of ?k_leads_of ?a_row_leads ?l_row_leads ?c_row_leads ?k_row_leads ?a_plain ?l_plain ?c_plain ?k_plain ?a_together ?l_together ?c_together ?k_together ?a_sided ?l_sided ?c_sided ?k_sided ?a_row_of_sides ?l_row_of_sides ?c_row_of_sides ?k_row_of_sides ?u_row_of_sides ?g_row_of_sides ?n_row_of_sides ?a_side_leads ?l_side_leads ?c_side_leads ?k_side_leads ?a_table_of ?l_table_of ?c_table_of ?k_table_of ?u_table_of ?g_table_of ?n_table_of ?a_rows_by_table ?l_rows_by_table ?c_rows_by_table ?k_rows_by_table ?a_still_rows ?l_still_rows ?c_still_rows ?k_still_rows ?a_still_hands ?l_still_hands ?c_still_hands ?k_still_hands ?a_table ?l_table ?c_table ?k_table ?a_read ?l_read ?c_read ?k_read ?a_stepped ?l_stepped ?c_stepped ?k_stepped ?u_stepped ?g_stepped ?n_stepped ?a_units ?l_units ?c_units ?k_units ?u_units ?g_units ?n_units ?a_moved ?l_moved ?c_moved ?k_moved ?u_moved ?g_moved ?n_moved ?a_rule_of ?l_rule_of ?c_rule_of ?k_rule_of ?a_round_of ?l_round_of ?c_round_of ?k_round_of ?a_posts_of ?l_posts_of ?c_posts_of ?k_posts_of ?a_are_rows ?l_are_rows ?c_are_rows ?k_are_rows ?a_first_unfair ?l_first_unfair ?c_first_unfair ?k_first_unfair ?a__law_deck ?l__law_deck ?c__law_deck ?k__law_deck ?a__law_next ?l__law_next ?c__law_next ?k__law_next ?a__law_prime ?l__law_prime ?c__law_prime ?k__law_prime ?a__law_numbers ?l__law_numbers ?c__law_numbers ?k__law_numbers ?a__law_hold ?l__law_hold ?c__law_hold ?k__law_hold ?a__law_table ?l__law_table ?c__law_table ?k__law_table ?a__law_stand ?l__law_stand ?c__law_stand ?k__law_stand ?a__law_units ?l__law_units ?c__law_units ?k__law_units ?a__law_added ?l__law_added ?c__law_added ?k__law_added ?a__law_times ?l__law_times ?c__law_times ?k__law_times ?a__law_stirred ?l__law_stirred ?c__law_stirred ?k__law_stirred ?a__law_step ?l__law_step ?c__law_step ?k__law_step ?a__law_wires ?l__law_wires ?c__law_wires ?k__law_wires ?a__law_led ?l__law_led ?c__law_led ?k__law_led ?a__law_gone_round ?l__law_gone_round ?c__law_gone_round ?k__law_gone_round ?a__law_asked ?l__law_asked ?c__law_asked ?k__law_asked ?a_law ?l_law ?c_law ?k_law ?z_abs ?z_all ?z_any ?z_bool ?z_enumerate ?z_int ?z_isinstance ?z_len ?z_list ?z_range ?z_repr ?z_sorted ?z_sum ?z_tuple ?z_zip ?e_PRIMES ?h_PRIMES ?e_POSTS ?e_ROUNDS ?g_Thing ?pg_Thing ?hd_Thing ?po_Thing ?sa_Thing ?mk_Thing ?kc_Thing ?n_Thing_prime ?n_Thing_lot ?ne_Thing ?ob_Thing ?ca_Thing ?k_get ?k_tak ?a_Thing___init__ ?i_Thing___init__ ?l_Thing___init__ ?c_Thing___init__ ?k_Thing___init__ ?a_Thing_p ?i_Thing_p ?l_Thing_p ?c_Thing_p ?k_Thing_p ?a_Thing_rows ?i_Thing_rows ?l_Thing_rows ?c_Thing_rows ?k_Thing_rows ?g_PostError ?g_BadThing ?g_BadPost ?g_BadNumber ?g_Still ?g_TooMany ?i_TooMany___init__ ?t_TooMany___init__ ?l_TooMany___init__ ?c_TooMany___init__ ?k_TooMany___init__ ?x_TooMany ?sa_TooMany ?ex_TooMany ?ty_TooMany ?kp_TooMany ?ga_TooMany ?gg_TooMany ?hd_TooMany ?ca_TooMany ?ob_TooMany ?ss_TooMany ?ve_TooMany ?n_TooMany_bound ?u_TooMany_PostError ?u_TooMany_BadNumber ?u_TooMany_BadPost ?u_TooMany_BadThing ?u_TooMany_Still ?bs_PostError ?br_PostError ?bf_PostError ?kc_PostError ?kt_PostError ?kb_PostError ?kc_TooMany ?kt_TooMany ?kb_TooMany ?kc_BadNumber ?kt_BadNumber ?kb_BadNumber ?kc_BadPost ?kt_BadPost ?kb_BadPost ?kc_BadThing ?kt_BadThing ?kb_BadThing ?kc_Still ?kt_Still ?kb_Still
    (case a_is_whole => k_is)
    (case l_is_whole => k_is)
    (case c_is_whole => k_is)
    (case k_is_whole => k_is)
    (case a_is_prime => k_is)
    (case l_is_prime => k_is)
    (case c_is_prime => k_is)
    (case k_is_prime => k_is)
    (case a_is_round => k_is)
    (case l_is_round => k_is)
    (case c_is_round => k_is)
    (case k_is_round => k_is)
    (case a_inverse => k_is)
    (case l_inverse => k_is)
    (case c_inverse => k_is)
    (case k_inverse => k_is)
    (case a_is_pair => k_is)
    (case l_is_pair => k_is)
    (case c_is_pair => k_is)
    (case k_is_pair => k_is)
    (case a_is_row => k_is)
    (case l_is_row => k_is)
    (case c_is_row => k_is)
    (case k_is_row => k_is)
    (case a_nought => k_is)
    (case l_nought => k_is)
    (case c_nought => k_is)
    (case k_nought => k_is)
    (case a_added => k_is)
    (case l_added => k_is)
    (case c_added => k_is)
    (case k_added => k_is)
    (case u_added => k_is)
    (case g_added => rfl)
    (case n_added => rfl)
    (case a_times => k_is)
    (case l_times => k_is)
    (case c_times => k_is)
    (case k_times => k_is)
    (case u_times => k_is)
    (case g_times => rfl)
    (case n_times => rfl)
    (case a_meet => k_is)
    (case l_meet => k_is)
    (case c_meet => k_is)
    (case k_meet => k_is)
    (case a_flat_of => k_is)
    (case l_flat_of => k_is)
    (case c_flat_of => k_is)
    (case k_flat_of => k_is)
    (case a_row_of => k_is)
    (case l_row_of => k_is)
    (case c_row_of => k_is)
    (case k_row_of => k_is)
    (case u_row_of => k_is)
    (case g_row_of => rfl)
    (case n_row_of => rfl)
    (case a_first_place => k_is)
    (case l_first_place => k_is)
    (case c_first_place => k_is)
    (case k_first_place => k_is)
    (case a_lessened => k_is)
    (case l_lessened => k_is)
    (case c_lessened => k_is)
    (case k_lessened => k_is)
    (case a_cleared => k_is)
    (case l_cleared => k_is)
    (case c_cleared => k_is)
    (case k_cleared => k_is)
    (case a_leads_of => k_is)
    (case l_leads_of => k_is)
    (case c_leads_of => k_is)
    (case k_leads_of => k_is)
    (case a_row_leads => k_is)
    (case l_row_leads => k_is)
    (case c_row_leads => k_is)
    (case k_row_leads => k_is)
    (case a_plain => k_is)
    (case l_plain => k_is)
    (case c_plain => k_is)
    (case k_plain => k_is)
    (case a_together => k_is)
    (case l_together => k_is)
    (case c_together => k_is)
    (case k_together => k_is)
    (case a_sided => k_is)
    (case l_sided => k_is)
    (case c_sided => k_is)
    (case k_sided => k_is)
    (case a_row_of_sides => k_is)
    (case l_row_of_sides => k_is)
    (case c_row_of_sides => k_is)
    (case k_row_of_sides => k_is)
    (case u_row_of_sides => k_is)
    (case g_row_of_sides => rfl)
    (case n_row_of_sides => rfl)
    (case a_side_leads => k_is)
    (case l_side_leads => k_is)
    (case c_side_leads => k_is)
    (case k_side_leads => k_is)
    (case a_table_of => k_is)
    (case l_table_of => k_is)
    (case c_table_of => k_is)
    (case k_table_of => k_is)
    (case u_table_of => k_is)
    (case g_table_of => rfl)
    (case n_table_of => rfl)
    (case a_rows_by_table => k_is)
    (case l_rows_by_table => k_is)
    (case c_rows_by_table => k_is)
    (case k_rows_by_table => k_is)
    (case a_still_rows => k_is)
    (case l_still_rows => k_is)
    (case c_still_rows => k_is)
    (case k_still_rows => k_is)
    (case a_still_hands => k_is)
    (case l_still_hands => k_is)
    (case c_still_hands => k_is)
    (case k_still_hands => k_is)
    (case a_table => k_is)
    (case l_table => k_is)
    (case c_table => k_is)
    (case k_table => k_is)
    (case a_read => k_is)
    (case l_read => k_is)
    (case c_read => k_is)
    (case k_read => k_is)
    (case a_stepped => k_is)
    (case l_stepped => k_is)
    (case c_stepped => k_is)
    (case k_stepped => k_is)
    (case u_stepped => k_is)
    (case g_stepped => rfl)
    (case n_stepped => rfl)
    (case a_units => k_is)
    (case l_units => k_is)
    (case c_units => k_is)
    (case k_units => k_is)
    (case u_units => k_is)
    (case g_units => rfl)
    (case n_units => rfl)
    (case a_moved => k_is)
    (case l_moved => k_is)
    (case c_moved => k_is)
    (case k_moved => k_is)
    (case u_moved => k_is)
    (case g_moved => rfl)
    (case n_moved => rfl)
    (case a_rule_of => k_is)
    (case l_rule_of => k_is)
    (case c_rule_of => k_is)
    (case k_rule_of => k_is)
    (case a_round_of => k_is)
    (case l_round_of => k_is)
    (case c_round_of => k_is)
    (case k_round_of => k_is)
    (case a_posts_of => k_is)
    (case l_posts_of => k_is)
    (case c_posts_of => k_is)
    (case k_posts_of => k_is)
    (case a_are_rows => k_is)
    (case l_are_rows => k_is)
    (case c_are_rows => k_is)
    (case k_are_rows => k_is)
    (case a_first_unfair => k_is)
    (case l_first_unfair => k_is)
    (case c_first_unfair => k_is)
    (case k_first_unfair => k_is)
    (case a__law_deck => k_is)
    (case l__law_deck => k_is)
    (case c__law_deck => k_is)
    (case k__law_deck => k_is)
    (case a__law_next => k_is)
    (case l__law_next => k_is)
    (case c__law_next => k_is)
    (case k__law_next => k_is)
    (case a__law_prime => k_is)
    (case l__law_prime => k_is)
    (case c__law_prime => k_is)
    (case k__law_prime => k_is)
    (case a__law_numbers => k_is)
    (case l__law_numbers => k_is)
    (case c__law_numbers => k_is)
    (case k__law_numbers => k_is)
    (case a__law_hold => k_is)
    (case l__law_hold => k_is)
    (case c__law_hold => k_is)
    (case k__law_hold => k_is)
    (case a__law_table => k_is)
    (case l__law_table => k_is)
    (case c__law_table => k_is)
    (case k__law_table => k_is)
    (case a__law_stand => k_is)
    (case l__law_stand => k_is)
    (case c__law_stand => k_is)
    (case k__law_stand => k_is)
    (case a__law_units => k_is)
    (case l__law_units => k_is)
    (case c__law_units => k_is)
    (case k__law_units => k_is)
    (case a__law_added => k_is)
    (case l__law_added => k_is)
    (case c__law_added => k_is)
    (case k__law_added => k_is)
    (case a__law_times => k_is)
    (case l__law_times => k_is)
    (case c__law_times => k_is)
    (case k__law_times => k_is)
    (case a__law_stirred => k_is)
    (case l__law_stirred => k_is)
    (case c__law_stirred => k_is)
    (case k__law_stirred => k_is)
    (case a__law_step => k_is)
    (case l__law_step => k_is)
    (case c__law_step => k_is)
    (case k__law_step => k_is)
    (case a__law_wires => k_is)
    (case l__law_wires => k_is)
    (case c__law_wires => k_is)
    (case k__law_wires => k_is)
    (case a__law_led => k_is)
    (case l__law_led => k_is)
    (case c__law_led => k_is)
    (case k__law_led => k_is)
    (case a__law_gone_round => k_is)
    (case l__law_gone_round => k_is)
    (case c__law_gone_round => k_is)
    (case k__law_gone_round => k_is)
    (case a__law_asked => k_is)
    (case l__law_asked => k_is)
    (case c__law_asked => k_is)
    (case k__law_asked => k_is)
    (case a_law => k_is)
    (case l_law => k_is)
    (case c_law => k_is)
    (case k_law => k_is)
    (case z_abs => k_is)
    (case z_all => k_is)
    (case z_any => k_is)
    (case z_bool => k_is)
    (case z_enumerate => k_is)
    (case z_int => k_is)
    (case z_isinstance => k_is)
    (case z_len => k_is)
    (case z_list => k_is)
    (case z_range => k_is)
    (case z_repr => k_is)
    (case z_sorted => k_is)
    (case z_sum => k_is)
    (case z_tuple => k_is)
    (case z_zip => k_is)
    (case e_PRIMES => k_is)
    (case h_PRIMES => k_is)
    (case e_POSTS => k_is)
    (case e_ROUNDS => k_is)
    (case g_Thing => k_is)
    (case pg_Thing => k_is)
    (case hd_Thing => k_is)
    (case po_Thing => k_is)
    (case sa_Thing => k_is)
    (case mk_Thing => k_is)
    (case kc_Thing => k_is)
    (case n_Thing_prime => k_is)
    (case n_Thing_lot => k_is)
    (case ne_Thing => k_is)
    (case ob_Thing => k_is)
    (case ca_Thing => k_is)
    (case k_get => k_is)
    (case k_tak => k_is)
    (case a_Thing___init__ => k_is)
    (case i_Thing___init__ => k_is)
    (case l_Thing___init__ => k_is)
    (case c_Thing___init__ => k_is)
    (case k_Thing___init__ => k_is)
    (case a_Thing_p => k_is)
    (case i_Thing_p => k_is)
    (case l_Thing_p => k_is)
    (case c_Thing_p => k_is)
    (case k_Thing_p => k_is)
    (case a_Thing_rows => k_is)
    (case i_Thing_rows => k_is)
    (case l_Thing_rows => k_is)
    (case c_Thing_rows => k_is)
    (case k_Thing_rows => k_is)
    (case g_PostError => k_is)
    (case g_BadThing => k_is)
    (case g_BadPost => k_is)
    (case g_BadNumber => k_is)
    (case g_Still => k_is)
    (case g_TooMany => k_is)
    (case i_TooMany___init__ => k_is)
    (case t_TooMany___init__ => k_is)
    (case l_TooMany___init__ => k_is)
    (case c_TooMany___init__ => k_is)
    (case k_TooMany___init__ => k_is)
    (case x_TooMany => k_is)
    (case sa_TooMany => k_is)
    (case ex_TooMany => k_is)
    (case ty_TooMany => k_is)
    (case kp_TooMany => k_is)
    (case ga_TooMany => k_is)
    (case gg_TooMany => k_is)
    (case hd_TooMany => k_is)
    (case ca_TooMany => k_is)
    (case ob_TooMany => k_is)
    (case ss_TooMany => k_is)
    (case ve_TooMany => k_is)
    (case n_TooMany_bound => k_is)
    (case u_TooMany_PostError => k_is)
    (case u_TooMany_BadNumber => k_is)
    (case u_TooMany_BadPost => k_is)
    (case u_TooMany_BadThing => k_is)
    (case u_TooMany_Still => k_is)
    (case bs_PostError => k_is)
    (case br_PostError => k_is)
    (case bf_PostError => k_is)
    (case kc_PostError => k_is)
    (case kt_PostError => k_is)
    (case kb_PostError => k_is)
    (case kc_TooMany => k_is)
    (case kt_TooMany => k_is)
    (case kb_TooMany => k_is)
    (case kc_BadNumber => k_is)
    (case kt_BadNumber => k_is)
    (case kb_BadNumber => k_is)
    (case kc_BadPost => k_is)
    (case kt_BadPost => k_is)
    (case kb_BadPost => k_is)
    (case kc_BadThing => k_is)
    (case kt_BadThing => k_is)
    (case kb_BadThing => k_is)
    (case kc_Still => k_is)
    (case kt_Still => k_is)
    (case kb_Still => k_is)
#print axioms PySem.Challenge.cw_fairposts_k85_round_and_round_holds

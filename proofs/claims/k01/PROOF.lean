import PyProof.Rows.All
import Wide.All
import OpenK.AllK
import Wide.FinOn
import HandS.ForMost
import HandS.Wide
import HandS.IsInst
import HandS.Conv
import PySem.Challenge.RW_fairposts_k01_primes_and_numbers
set_option Elab.async false
set_option maxRecDepth 100000
namespace Kp
open PySem L2
def top (i : Nat) : Stmt := PySem.Challenge.pw_fairposts_k01_primes_and_numbers.main.body.getD i (.Pass ⟨0, 0, 0, 0⟩)
abbrev s_is_whole : Stmt := top 3
def N_is_whole : List Str := ["thing"]
theorem sc_is_whole : FnScope ["thing"] ["thing"] (defScope s_is_whole) := ⟨rfl, rfl, rfl, by decide +kernel, rfl, by decide +kernel, by decide +kernel⟩
abbrev s_is_prime : Stmt := top 4
def N_is_prime : List Str := ["thing"]
theorem sc_is_prime : FnScope ["thing"] ["thing"] (defScope s_is_prime) := ⟨rfl, rfl, rfl, by decide +kernel, rfl, by decide +kernel, by decide +kernel⟩
abbrev s_is_round : Stmt := top 5
def N_is_round : List Str := ["p", "thing"]
theorem sc_is_round : FnScope ["p", "thing"] ["p", "thing"] (defScope s_is_round) := ⟨rfl, rfl, rfl, by decide +kernel, rfl, by decide +kernel, by decide +kernel⟩
abbrev s__law_deck : Stmt := top 7
def N__law_deck : List Str := ["_law_script", "_law_cells", "_law_cell"]
theorem sc__law_deck : FnScope ["_law_script", "_law_cells", "_law_cell"] ["_law_script"] (defScope s__law_deck) := ⟨rfl, rfl, rfl, by decide +kernel, rfl, by decide +kernel, by decide +kernel⟩
abbrev s__law_next : Stmt := top 8
def N__law_next : List Str := ["_law_deck_here", "_law_many", "_law_cell", "_law_mixed", "_law_rest"]
theorem sc__law_next : FnScope ["_law_deck_here", "_law_many", "_law_cell", "_law_mixed", "_law_rest"] ["_law_deck_here", "_law_many"] (defScope s__law_next) := ⟨rfl, rfl, rfl, by decide +kernel, rfl, by decide +kernel, by decide +kernel⟩
abbrev s__law_things : Stmt := top 9
def N__law_things : List Str := ["_law_deck_here", "_law_great", "_law_some"]
theorem sc__law_things : FnScope ["_law_deck_here", "_law_great", "_law_some"] ["_law_deck_here"] (defScope s__law_things) := ⟨rfl, rfl, rfl, by decide +kernel, rfl, by decide +kernel, by decide +kernel⟩
abbrev s__law_is_whole : Stmt := top 10
def N__law_is_whole : List Str := ["_law_thing"]
theorem sc__law_is_whole : FnScope ["_law_thing"] ["_law_thing"] (defScope s__law_is_whole) := ⟨rfl, rfl, rfl, by decide +kernel, rfl, by decide +kernel, by decide +kernel⟩
abbrev s__law_truth : Stmt := top 11
def N__law_truth : List Str := ["_law_found", "_law_due"]
theorem sc__law_truth : FnScope ["_law_found", "_law_due"] ["_law_found", "_law_due"] (defScope s__law_truth) := ⟨rfl, rfl, rfl, by decide +kernel, rfl, by decide +kernel, by decide +kernel⟩
abbrev s_law : Stmt := top 12
def N_law : List Str := ["_law_script", "_law_deck_here", "_law_primes", "_law_things_here", "_law_thing", "_law_due", "_law_p"]
theorem sc_law : FnScope ["_law_script", "_law_deck_here", "_law_primes", "_law_things_here", "_law_thing", "_law_due", "_law_p"] ["_law_script"] (defScope s_law) := ⟨rfl, rfl, rfl, by decide +kernel, rfl, by decide +kernel, by decide +kernel⟩
structure Df (K : PySem.W.Frag) (mg : Str → Option Value) (x : Str) (st : Stmt) (ps : List Str) (f : Addr) (fd : FuncData) : Prop where
  F : Fun K x x st f fd
  b : Binds K fd ps []
  g : mg x = some (.ref f)
structure Ad where
  f_is_whole : Addr
  d_is_whole : FuncData
  f_is_prime : Addr
  d_is_prime : FuncData
  f_is_round : Addr
  d_is_round : FuncData
  f__law_deck : Addr
  d__law_deck : FuncData
  f__law_next : Addr
  d__law_next : FuncData
  f__law_things : Addr
  d__law_things : FuncData
  f__law_is_whole : Addr
  d__law_is_whole : FuncData
  f__law_truth : Addr
  d__law_truth : FuncData
  f_law : Addr
  d_law : FuncData
  c_PRIMES : Addr
  c_POSTS : Addr
structure Tx (K : PySem.W.Frag) (mg : Str → Option Value) (A : Ad) : Prop where
  d_is_whole : Df K mg "is_whole" s_is_whole ["thing"] A.f_is_whole A.d_is_whole
  d_is_prime : Df K mg "is_prime" s_is_prime ["thing"] A.f_is_prime A.d_is_prime
  d_is_round : Df K mg "is_round" s_is_round ["p", "thing"] A.f_is_round A.d_is_round
  d__law_deck : Df K mg "_law_deck" s__law_deck ["_law_script"] A.f__law_deck A.d__law_deck
  d__law_next : Df K mg "_law_next" s__law_next ["_law_deck_here", "_law_many"] A.f__law_next A.d__law_next
  d__law_things : Df K mg "_law_things" s__law_things ["_law_deck_here"] A.f__law_things A.d__law_things
  d__law_is_whole : Df K mg "_law_is_whole" s__law_is_whole ["_law_thing"] A.f__law_is_whole A.d__law_is_whole
  d__law_truth : Df K mg "_law_truth" s__law_truth ["_law_found", "_law_due"] A.f__law_truth A.d__law_truth
  d_law : Df K mg "law" s_law ["_law_script"] A.f_law A.d_law
  b_abs : mg "abs" = none
  b_bool : mg "bool" = none
  b_int : mg "int" = none
  b_isinstance : mg "isinstance" = none
  b_len : mg "len" = none
  b_list : mg "list" = none
  b_range : mg "range" = none
  b_repr : mg "repr" = none
  b_tuple : mg "tuple" = none
  v_PRIMES : mg "PRIMES" = some (.ref A.c_PRIMES)
  w_PRIMES : ∃ (od : Option Addr) (its : Array Value) (n : Nat) (sl : Array (Option Value)), K.lookup A.c_PRIMES = some ⟨.type "tuple", od, .seq its n, sl⟩ ∧ Vals [V.int 2, V.int 3, V.int 5, V.int 7, V.int 11, V.int 13] its.toList
  v_POSTS : ∃ t, mg "POSTS" = some (.int 10 t)
/-! ### heaps -/
theorem same_upd {H : Hp} {p : Addr} {o : HO} (h : H p = none) : Same H (upd H p o) := fun b x e => by
  rw [upd_ne (ne_of_none e h)]
  exact e
/-- all but the deck's two lists that change stays -/
def Fr (d g : Addr) (H H' : Hp) : Prop := ∀ a o, a ≠ d → a ≠ g → H a = some o → H' a = some o
theorem Fr.refl (d g : Addr) (H : Hp) : Fr d g H H := fun _ _ _ _ h => h
theorem Fr.trans {d g : Addr} {H H1 H2 : Hp} (x : Fr d g H H1) (y : Fr d g H1 H2) : Fr d g H H2 := fun a o hd hg h => y a o hd hg (x a o hd hg h)
theorem Fr.of_same {d g : Addr} {H H1 : Hp} (x : Same H H1) : Fr d g H H1 := fun a o _ _ h => x a o h
theorem Fr.new {d g : Addr} {H : Hp} {p : Addr} {o : HO} (h : H p = none) : Fr d g H (upd H p o) := .of_same (same_upd h)
theorem Fr.atd {d g : Addr} {H : Hp} {o : HO} : Fr d g H (upd H d o) := fun a x hd _ h => by
  rw [upd_ne hd]
  exact h
theorem Fr.atg {d g : Addr} {H : Hp} {o : HO} : Fr d g H (upd H g o) := fun a x _ hg h => by
  rw [upd_ne hg]
  exact h
/-- the deck: a list of great cells, of cells, and a count that is at most k -/
structure Dk (d g c : Addr) (k : Int) (H : Hp) : Prop where
  ex : ∃ (gs cs : List Int) (n : Int), H d = some (.lst [.ref g, .ref c, .int n]) ∧ H g = some (.lst (gs.map V.int)) ∧ H c = some (.lst (cs.map V.int)) ∧ 0 < cs.length ∧ cs.length ≤ 100 ∧ 0 ≤ n ∧ n ≤ k
  dg : d ≠ g
  dc : d ≠ c
  gc : g ≠ c
theorem Dk.mono {d g c : Addr} {k j : Int} {H : Hp} (D : Dk d g c k H) (h : k ≤ j) : Dk d g c j H := by
  obtain ⟨gs, cs, n, h1, h2, h3, h4, h5, h6, h7⟩ := D.ex
  exact ⟨⟨gs, cs, n, h1, h2, h3, h4, h5, h6, by omega⟩, D.dg, D.dc, D.gc⟩
theorem Dk.same {d g c : Addr} {k : Int} {H H' : Hp} (D : Dk d g c k H) (s : Same H H') : Dk d g c k H' := by
  obtain ⟨gs, cs, n, h1, h2, h3, h4, h5, h6, h7⟩ := D.ex
  exact ⟨⟨gs, cs, n, s _ _ h1, s _ _ h2, s _ _ h3, h4, h5, h6, h7⟩, D.dg, D.dc, D.gc⟩
theorem Dk.hd {d g c : Addr} {k : Int} {H : Hp} (D : Dk d g c k H) : ∃ o, H d = some o := by
  obtain ⟨gs, cs, n, h1, _⟩ := D.ex
  exact ⟨_, h1⟩
theorem Dk.nd {d g c p : Addr} {k : Int} {H : Hp} (D : Dk d g c k H) (h : H p = none) : p ≠ d ∧ p ≠ g ∧ p ≠ c := by
  obtain ⟨gs, cs, n, h1, h2, h3, _⟩ := D.ex
  exact ⟨(ne_of_none h1 h).symm, (ne_of_none h2 h).symm, (ne_of_none h3 h).symm⟩
theorem neqv_nil : ∀ gs : List Int, PyData.eqv (.list (gs.map PyData.int)) (.list []) = gs.isEmpty
  | [] => rfl
  | _ :: _ => rfl
theorem dp_ints {K : PySem.W.Frag} {H : Hp} : ∀ gs : List Int, DpAll K H (gs.map V.int) (gs.map PyData.int)
  | [] => .nil
  | i :: r => .cons (.int i) (dp_ints r)
theorem lay_ints : ∀ gs : List Int, PyData.canLayAll0 (gs.map PyData.int) = true
  | [] => by simp [PyData.canLayAll0]
  | z :: zs => by simp [PyData.canLayAll0, PyData.canLay0, lay_ints zs]
theorem dep_ints : ∀ gs : List Int, PyData.depthAll (gs.map PyData.int) = 0
  | [] => by simp [PyData.depthAll]
  | z :: zs => by simp [PyData.depthAll, PyData.depth, dep_ints zs]
theorem sh_ints (gs : List Int) : SeqAt.shaped (.list (gs.map PyData.int)) = true := by
  have h1 := dep_ints gs
  have h2 : PyData.depth (.list (gs.map PyData.int)) ≤ 64 := by
    simp only [PyData.depth]
    omega
  show (PyData.canLay0 (.list (gs.map PyData.int)) && decide (PyData.depth (.list (gs.map PyData.int)) ≤ 64)) = true
  rw [Bool.and_eq_true]
  exact ⟨by simp only [PyData.canLay0]; exact lay_ints gs, decide_eq_true h2⟩
theorem atI_zero {α : Type} {x : α} {xs : List α} : atI (x :: xs) 0 = some x := atI_nat (j := 0) rfl
theorem ints_at {cs : List Int} {i : Int} (h0 : 0 ≤ i) (h1 : i < cs.length) : ∃ v : Int, atI (cs.map V.int) i = some (V.int v) := by
  obtain ⟨j, rfl⟩ := Int.eq_ofNat_of_zero_le h0
  have hj : j < cs.length := by omega
  refine ⟨cs[j], ?_⟩
  apply atI_nat
  rw [List.getElem?_map, List.getElem?_eq_getElem hj]
  rfl
theorem int_of_map {cs : List Int} {i : Nat} {y : V} (h : (cs.map V.int)[i]? = some y) : ∃ u, y = V.int u := by
  rw [List.getElem?_map] at h
  cases e : cs[i]? with
  | none =>
    rw [e] at h
    cases h
  | some u =>
    rw [e] at h
    exact ⟨u, (Option.some.inj h).symm⟩
theorem ixN_zero {n : Nat} (h : 0 < n) : ixN n 0 = some 0 := by
  unfold ixN
  rw [if_pos (Int.le_refl 0), if_pos (by omega)]
  rfl
theorem ixN_seq0 {n : Nat} (h : 0 < n) : seqIndex? 0 n = some 0 := (ixN_seq (ixN_zero h)).1
theorem mod_in {a m : Int} (h0 : 0 < m) (h1 : m ≤ 2 ^ 64) : -(2 ^ 64) < a % m ∧ a % m < 2 ^ 64 := by
  have x := Int.emod_nonneg a (b := m) (by omega)
  have y := Int.emod_lt_of_pos a h0
  exact ⟨by omega, by omega⟩
theorem bl_t {c : Prop} [Decidable c] (h : c) : V.bl (decide c) = V.bl true := by rw [decide_eq_true h]
theorem bl_f {c : Prop} [Decidable c] (h : ¬ c) : V.bl (decide c) = V.bl false := by rw [decide_eq_false h]
theorem nb_f {c : Prop} [Decidable c] (h : c) : V.bl (!decide c) = V.bl false := by rw [decide_eq_true h]; rfl
theorem nb_t {c : Prop} [Decidable c] (h : ¬ c) : V.bl (!decide c) = V.bl true := by rw [decide_eq_false h]; rfl
/-! ### isinstance -/
def isB (T U : String) : Bool := (kitB T U).getD false
/-- the built-in type of a value -/
def TyB1 (K : PySem.W.Frag) (H : Hp) (x : V) (T : String) : Prop := TyX K H x (.type T) ∧ (T = "int" ∨ T = "bool" ∨ T = "NoneType" ∨ T = "str" ∨ T = "list" ∨ T = "tuple" ∨ T = "dict")
theorem isi_of {K : PySem.W.Frag} {T : String} (U : String) (hT : T = "int" ∨ T = "bool" ∨ T = "NoneType" ∨ T = "str" ∨ T = "list" ∨ T = "tuple" ∨ T = "dict") (hU : U = "int" ∨ U = "bool" ∨ U = "tuple" ∨ U = "list" ∨ U = "str") : PySem.W.kitOne K (.type T) (.type U) = some (isB T U) := by
  rcases hT with rfl | rfl | rfl | rfl | rfl | rfl | rfl <;> rcases hU with rfl | rfl | rfl | rfl | rfl <;> exact kit_ty (by decide +kernel)
theorem isB_ii : isB "int" "int" = true := by decide +kernel
theorem isB_ib : isB "int" "bool" = false := by decide +kernel
theorem isB_bi : isB "bool" "int" = true := by decide +kernel
theorem isB_bb : isB "bool" "bool" = true := by decide +kernel
theorem isB_tt : isB "tuple" "tuple" = true := by decide +kernel
/-! ### a call where it is known that no repr is under way (guards), and the law's own end over it -/
open PySem.Spec PyProof.Rows in
theorem at_call {P : Program} {w : World} {K : PySem.W.Frag} {mg : Str → Option Value} {base : Heap} {A : Around} {outer : List Env}
    {x qual : Str} {st : Stmt} {f : Addr} {fd : FuncData} {N ps : List Str} {k : Nat} (F : Fun K x qual st f fd)
    (S : FnScope N ps (defScope st)) {s : Shared} {H : Hp} {args : Args} {us : List Value} {vs : List V} {Q : VK} {E : XK}
    (hl : vs.length = ps.length) (room : Room (k + 1) A) (e0 : Env0 P w K mg base A outer s H)
    (hb : BindsTo s fd args (ps.zip us)) (rv : Vals vs us)
    (body : ∀ cdv : Value, Room k (A.deeper (envOfC qual (defScope st) s.heap.objs.size f cdv)) →
      ∃ t, PSs (cxOf CX0 P w K mg base N qual (defScope st) f cdv A outer s H E).nox (defBody st) t ∧
        t { nx := fun _ H' => Q .non H', rt := Q } (start N vs) H) :
    codeAny (model P w) A (.call (.ref f) args) (CR CX0 outer P w H s Q E) s := by
  obtain ⟨oc, od, kV, doc, pm, an, cdv, ct, osl, rfl, look, code⟩ := F.ex
  have inn : ∀ {b o}, base.get? b = some o → s.heap.get? b = some o := fun z => (e0.bs _ _ z).1
  have kin : K.In s.heap := e0.mod.kin.keeps fun _ _ z => inn z
  have nol : s.heap.NoLimit := e0.mod.nolimit.keeps fun _ _ z => inn z
  refine codeAny_call_function room.depth (kin _ _ look) rfl S.co S.gen rfl (PySem.W.codeRec_of kin code) (hb _ _ _ _ ?_)
  refine wpAny_newFunctionEnv_cells S.kind (fun y hy => ?_) fun env he s1 inc => ?_
  · obtain ⟨n, v⟩ := y
    cases S.par n (List.of_mem_zip hy).1 with
    | inl z => exact Or.inl z
    | inr z => exact Or.inr ⟨z, PySem.W.cellsFrom_some _ _ _ (Or.inl z)⟩
  · subst he
    refine ⟨nol.keeps inc.toInCall.keep, codeAny_func ?_⟩
    obtain ⟨t, ht, hq⟩ := body cdv (room.deeper _)
    have I0 := inv_start (CX := CX0) (E := E) S room.hd e0 hl rv inc
    refine wpAny_mono (ht.nox.run [] s1 (start N vs) H _ I0 hq) (fun fl s' hs => ?_) (fun _ _ z => z)
    match fl, hs with
    | .ret _, ⟨v, _, H', J, r1, q1⟩ => exact ⟨v, H', J.os, J.bare, J.base, J.hok, r1, q1⟩
    | .next, ⟨_, H', J, q1⟩ => exact ⟨V.non, H', J.os, J.bare, J.base, J.hok, rfl, q1⟩
    | .brk, ⟨_, _, _, z⟩ => exact z.elim
    | .cont, ⟨_, _, _, z⟩ => exact z.elim
open PySem.Spec PyProof.Rows in
theorem core_end {P : Program} {w : World} {K : PySem.W.Frag} {mg mb : Str → Option Value} {fa a : Addr} {t : Shared} {vs : List Value} {H : Hp}
    (kin : K.In t.heap) (hm : t.heap.Ns mainGlobals mg) (hb : t.heap.Ns builtinsNs mb) (boot : ∀ x : Str, x ≠ "__name__" → mb x = bootBuiltins x)
    (nol : t.heap.NoLimit) (hg : t.gens = #[]) (ha : t.heap.get? a = some { cls := .type "list", data := .seq vs.toArray })
    (only : Only H) (hok : HOk P w H t.heap) (atA : ∀ b o, H b = some o → b = a) (notK : ∀ o, H a = some o → K.lookup a = none)
    (R : ∀ base : Heap, Env0 P w K mg base callerA [] t H →
      codeAny (model P w) callerA (.call (.ref fa) ⟨[.ref a], []⟩) (CR CX0 [] P w H t (fun v _ => v = .bl true) E0) t) :
    codeAny (model P w) callerA (.call (.ref fa) ⟨[.ref a], []⟩)
      (fun r u => r = .ok (.ret (.bool true)) ∧ PySem.OldK t.heap u.heap ∧ u.os = t.os ∧ AllBare u.gens) t := by
  have hid : ∀ {b o}, t.heap.get? b = some o → H b = none → (hidT t.heap H).get? b = some o := fun z n => hidT_get z n
  have names : ∀ {b : Addr} {m : Str → Option Value}, t.heap.Ns b m → (hidT t.heap H).Ns b m := by
    rintro b m ⟨o, es, ep, z, d, r⟩
    refine ⟨o, es, ep, hid z ?_, d, r⟩
    cases q : H b with
    | none => rfl
    | some u =>
      cases atA b u q
      rw [ha] at z
      cases z
      cases d
  have kinB : K.In (hidT t.heap H) := by
    intro b o z
    refine hid (kin b o z) ?_
    cases q : H b with
    | none => rfl
    | some u =>
      cases atA b u q
      rw [notK u q] at z
      cases z
  obtain ⟨mc, n1, n2⟩ := nol
  have md : Mod K mg (hidT t.heap H) := ⟨kinB, names hm, ⟨mb, names hb, boot⟩, ⟨mc, names n1, n2⟩⟩
  have e0 : Env0 P w K mg (hidT t.heap H) callerA [] t H := by
    refine ⟨rfl, md, fun b o z => of_hidT z, Nat.le_of_eq (hidT_size _ _), trivial, fun b z => ?_, hok, .of_eq hg⟩
    exact (List.not_mem_nil (show b ∈ ([] : List Addr) from z)).elim
  refine codeAny_mono (R _ e0) fun r u h => ?_
  match r, h with
  | .ok (.ret y), ⟨v, H', hos, bare, un, hok', rel, e⟩ =>
    have e2 : v = V.bl true := e
    subst e2
    cases (show y = Value.bool true from rel)
    refine ⟨rfl, OldK.of_keep fun b o z => ?_, hos, bare⟩
    rcases only b with n | ⟨ob, xs, n⟩
    · exact un.keep b o z n (fun y => (List.not_mem_nil (show b ∈ ([] : List Addr) from y)).elim) (by simp)
    · obtain ⟨g1, _⟩ := hok b _ n
      obtain ⟨g2, _⟩ := hok' b _ (un.frzs b ob _ n)
      rw [g1] at z
      cases z
      exact g2
  | .ok .next, h => exact False.elim h
  | .ok .brk, h => exact False.elim h
  | .ok .cont, h => exact False.elim h
  | .error _, h => exact False.elim h
open PySem.Spec PyProof.Rows in
/-- the law's call, over every script of at most 63 numbers, gives True -/
def LawOk (P : Program) (w : World) (K : PySem.W.Frag) (mg : Str → Option Value) (fa : Addr) : Prop :=
  ∀ (base : Heap) (t : Shared) (H : Hp) (a : Addr) (ns : List Int), ns.length ≤ 63 → Env0 P w K mg base callerA [] t H → SqL K H a (ns.map V.int) →
    codeAny (model P w) callerA (.call (.ref fa) ⟨[.ref a], []⟩) (CR CX0 [] P w H t (fun v _ => v = .bl true) E0) t
open PySem.Spec PyProof.Rows in
theorem walk_g {l : PySem.W.OpenLaw} {q : Program} {loose : List Str} {XP : (Str → Option Value) → Heap → Prop} {YP : World → Heap → Prop} {d : DefRec} {K : Params → PySem.W.Frag}
    (hn : l.most = some 63) (hdf : d.params.defaults = []) (hY : ∀ (w : World) (h : Heap), YP w h → (K w.params).In h)
    (F : ∀ (w : World) (mg : Str → Option Value) (fa : Addr) (h : Heap), (K w.params).In h → h.Ns mainGlobals mg → mg d.name = some (.ref fa) → LawOk l.prog w (K w.params) mg fa) :
    PySem.W.WalkO q loose XP YP l.row.toRowW d [] (fun f vs => PySem.call f vs) := by
  refine Att.attach_call hn hdf fun w s₀ t mg mb fa o pm cd doc a vs ns G Y ho hd hcd hmg hobj hints hlen hg => ?_
  have kin := hY w _ Y
  have L := F w mg fa _ kin G.T.g hmg
  have rv := vals_ints hints
  have small : ns.length ≤ sizeLine := Nat.le_trans hlen (by decide)
  cases hk : (K w.params).lookup a with
  | some u =>
    have z := kin a u hk
    rw [hobj] at z
    cases z
    refine core_end (H := fun _ => none) kin G.T.g G.T.b G.T.builtins G.T.nolimit hg hobj (fun _ => .inl rfl) (fun b u z => nomatch z) (fun b o z => nomatch z) (fun o z => nomatch z) fun base e0 => ?_
    exact L base t _ a ns hlen e0 (.inr ⟨_, vs.toArray, _, hk, rfl, rfl, rfl, by rw [List.size_toArray, hints.length]; exact small, by simpa using rv⟩)
  | none =>
    refine core_end (H := fun b => if b = a then some (.frz { cls := .type "list", data := .seq vs.toArray } (.lst (ns.map V.int))) else none) kin G.T.g G.T.b G.T.builtins G.T.nolimit hg hobj (fun b => ?_) (fun b u z => ?_) (fun b o z => ?_) (fun _ _ => hk) fun base e0 => ?_
    · by_cases e : b = a
      · exact .inr ⟨_, _, if_pos e⟩
      · exact .inl (if_neg e)
    · by_cases e : b = a
      · cases (if_pos e).symm.trans z
        subst e
        exact ⟨hobj, by rw [List.length_map]; exact small, vs, _, rv, hobj⟩
      · cases (if_neg e).symm.trans z
    · by_cases e : b = a
      · exact e
      · cases (if_neg e).symm.trans z
    · have h1 := L base t _ a ns hlen e0
      exact h1 (.inl (.inr ⟨_, if_pos rfl⟩))
open PySem.Spec PyProof.Rows in
theorem guards_caller : callerA.guards = some [] := rfl
section
variable {X : Cx}
open PySem.Spec PyProof.Rows in
/-- repr(x), x of lists, tuples, ints, texts, truths, None -/
theorem call_reprD (hg : X.A.guards = some []) (hu : X.A.units + 80 < cLine) : CallR X (.builtin "repr") (fun xs H Q => ∃ (a : Addr) (d : PyData), xs = [.ref a] ∧ Dp X.K H (.ref a) d ∧ d.showable = true ∧ d.hasDict = false ∧ d.depth ≤ 64 ∧ d.shown.length ≤ sizeLine ∧ Q (.str d.shown) H) := by
  intro pins s σ H xs us Q I r h
  obtain ⟨a, d, rfl, hd, hs, hn, hz, hl, q⟩ := h
  obtain ⟨u, rfl, ru⟩ := vals1 r
  obtain ⟨as, rd⟩ := Dp.reads I d _ u hd ru
  obtain rfl : u = Value.ref a := ru
  refine repr_of_reads' rd hs (PyData.noDict_hsm hn) hg (by omega) (fun _ _ z => z) (fun h' u tk hk => ?_) hl
  exact ⟨.str d.shown, H, I.kept hk, ⟨_, rfl⟩, q⟩
end
theorem ru80 {k : Nat} {A : Around} (hr : Room k A) : A.units + 80 < cLine := by
  have := hr.un
  omega
open PySem.Spec PyProof.Rows in
theorem law_at {P : Program} {w : World} {K : PySem.W.Frag} {mg : Str → Option Value} {st : Stmt} {f : Addr} {fd : FuncData} {N : List Str} {p : Str} {k : Nat}
    (D : Df K mg "law" st [p] f fd) (S : FnScope N [p] (defScope st)) (room : Room (k + 1) callerA)
    (body : ∀ (base : Heap) (t : Shared) (H : Hp) (a : Addr) (ns : List Int) (cdv : Value), ns.length ≤ 63 → SqL K H a (ns.map V.int) →
      Room k (callerA.deeper (envOfC "law" (defScope st) t.heap.objs.size f cdv)) →
      ∃ tm, PSs (cxOf CX0 P w K mg base N "law" (defScope st) f cdv callerA [] t H E0).nox (defBody st) tm ∧
        tm { nx := fun _ _ => V.non = .bl true, rt := fun v _ => v = .bl true } (start N [.ref a]) H) : LawOk P w K mg f := by
  intro base t H a ns hl e0 hS
  have kin : K.In t.heap := e0.mod.kin.keeps fun b o z => (e0.bs b o z).1
  exact at_call (vs := [.ref a]) D.F S rfl room e0 (D.b t [.ref a] kin rfl) (.cons rfl .nil) fun cdv hr => body base t H a ns cdv hl hS hr
def prs : List Int := [2, 3, 5, 7, 11, 13]
theorem flat_ints : ∀ ns : List Int, (ns.map V.int).all flatV = true
  | [] => rfl
  | _ :: r => flat_ints r
/-- a thing: a whole number, or something else -/
def Th (K : PySem.W.Frag) (H : Hp) (x : V) : Option Int → Prop
  | some i => x = .int i
  | none => ∃ t, TyB1 K H x t ∧ (isB t "int" && !isB t "bool") = false
def isP : Option Int → Bool
  | some i => inV (.int i) (prs.map V.int)
  | none => false
def isR (p : Int) : Option Int → Bool
  | some i => decide (0 ≤ i) && decide (i < p)
  | none => false
theorem tyX_same {K : PySem.W.Frag} {H H' : Hp} {x : V} {t : Value} (s : Same H H') (h : TyX K H x t) : TyX K H' x t := by
  cases h with
  | base h =>
    cases h with
    | non => exact .base .non
    | bl b => exact .base (.bl b)
    | int i => exact .base (.int i)
    | str z => exact .base (.str z)
    | flt z => exact .base (.flt z)
    | lst e => exact .base (.lst (s _ _ e))
    | frz e => exact .base (.frz (s _ _ e))
    | tup e => exact .base (.tup (s _ _ e))
    | dK e => exact .base (.dK (s _ _ e))
    | dT e => exact .base (.dT (s _ _ e))
    | ins e a b c d f => exact .base (.ins (s _ _ e) a b c d f)
  | byt b => exact .byt b
  | set e => exact .set (s _ _ e)
  | kList e c => exact .kList e c
  | kTuple e c => exact .kTuple e c
  | kDict e c => exact .kDict e c
  | fTuple e => exact .fTuple (s _ _ e)
  | fDict e => exact .fDict (s _ _ e)
section
variable {P : Program} {w : World} {K : PySem.W.Frag} {mg : Str → Option Value} {base : Heap} {A : Ad}
/-! ### the deck -/
def spDeck (K : PySem.W.Frag) : Sp := fun vs H Q _ => ∃ (a : Addr) (ns : List Int), vs = [.ref a] ∧ SqL K H a (ns.map V.int) ∧ ns.length ≤ 63 ∧
  ∀ (d g c : Addr) (H' : Hp), Same H H' → H d = none → H g = none → H c = none → Dk d g c 0 H' → Q (.ref d) H'
theorem ok__law_deck (T : Tx K mg A) : FnOk P w K mg base CX0 1 A.f__law_deck A.d__law_deck ["_law_script"] (spDeck K) := by
  refine T.d__law_deck.F.ok sc__law_deck (fun vs H Q E h => ?_) (fun cdv A outer s H vs Q E hr h => ?_)
  · obtain ⟨a, ns, rfl, _⟩ := h
    rfl
  · obtain ⟨a, ns, rfl, hS, hlen, k⟩ := h
    refine ⟨_, (pss_cons (ps_setLc (i := 1) (own := [("_law_cell", 2)]) rfl sc__law_deck.nd rfl rfl (sw_true rfl rfl rfl (by decide +kernel)) (pi_list (pv 0)) (blkOk_by (N := N__law_deck) (sc := defScope s__law_deck) (by decide +kernel)) (fun _ _ _ _ _ => (pg_name (i := 2) sc__law_deck.nd rfl (.inl rfl))) (fun _ _ _ _ _ => pts_nil) (fun _ _ _ _ _ => (pe_callB call_abs (by rfl) T.b_abs PyProof.Rows.boot_abs (pa_cons (pv 2) pa_nil))))
        (pss_one (ps_ret (pe_lst (pa_cons (pe_lc (own := [("_law_cell", 2)]) rfl sc__law_deck.nd (pi_list (pv 1)) (blkOk_by (N := N__law_deck) (sc := defScope s__law_deck) (by decide +kernel)) (fun _ _ _ _ _ => (pg_name (i := 2) sc__law_deck.nd rfl (.inl rfl))) (fun _ _ _ _ _ => (pts_one (pt_cmpR op_ge (pv 2) (pe_op op_pow pe_int pe_int) (nomark _)))) (fun _ _ _ _ _ => (pv 2))) (pa_cons (pe_op op_cat (pv 1) (pe_lst (pa_cons (pe_op op_add (pe_callB call_len_seq (by rfl) T.b_len PySem.boot_len (pa_cons (pv 1) pa_nil)) pe_int) pa_nil))) (pa_cons pe_int pa_nil))))))), ?_⟩
    -- cells = [abs(cell) for cell in script]
    refine ⟨.ref a, rfl, a, rfl, ⟨_, hS⟩, fun D hD => lc_list (xs := ns.map V.int) (fun i H' => Same H H' ∧ ∃ cs : List Int, cs.length = i ∧ H' D = some (.lst (cs.map V.int))) ⟨same_upd hD, [], rfl, upd_same⟩ (fun i H' _ h => h.1.seq hS) ?_ ?_⟩
    · rintro i x H' hi ⟨s1, cs, hc, hDs⟩
      obtain ⟨u, rfl⟩ := int_of_map hi
      have hi63 : i < ns.length := by
        have q := (List.getElem?_eq_some_iff.mp hi).1
        rw [List.length_map] at q
        exact q
      refine ⟨rfl, .int u, rfl, u, rfl, cs.map V.int, hDs, by rw [List.length_map]; exact small1000 (by omega), ?_⟩
      refine ⟨fun b o e => ?_, cs ++ [if u < 0 then -u else u], by rw [List.length_append, hc]; rfl, by rw [upd_same, List.map_append]; rfl⟩
      rw [upd_ne (ne_of_none e hD)]
      exact s1 _ _ e
    · rintro H1 ⟨s1, cs, hc, hDs⟩
      rw [List.length_map] at hc
      -- the great ones
      refine ⟨.ref D, rfl, D, rfl, ⟨_, .inl (.inl hDs)⟩, fun G hG => lc_list (xs := cs.map V.int) (fun i H' => Same H1 H' ∧ ∃ gs : List Int, gs.length ≤ i ∧ H' G = some (.lst (gs.map V.int))) ⟨same_upd hG, [], Nat.le_refl _, upd_same⟩ (fun i H' _ h => h.1.seq (.inl (.inl hDs))) ?_ ?_⟩
      · rintro i x H' hi ⟨s2, gs, hg, hGs⟩
        obtain ⟨u, rfl⟩ := int_of_map hi
        have hi63 : i < cs.length := by
          have q := (List.getElem?_eq_some_iff.mp hi).1
          rw [List.length_map] at q
          exact q
        refine ⟨rfl, .int u, rfl, _, _, rfl, rfl, ⟨by decide, by decide, by decide⟩, u, _, rfl, rfl, _, rfl, ite2 (fun _ => ?_) (fun _ => ?_)⟩
        · refine ⟨.int u, rfl, gs.map V.int, hGs, by rw [List.length_map]; exact small1000 (by omega), fun b o e => ?_, gs ++ [u], ?_, by rw [upd_same, List.map_append]; rfl⟩
          · rw [upd_ne (ne_of_none e hG)]
            exact s2 _ _ e
          · rw [List.length_append, List.length_singleton]
            omega
        · exact ⟨s2, gs, by omega, hGs⟩
      · rintro H2 ⟨s2, gs, hg, hGs⟩
        rw [List.length_map] at hg
        have hD2 : H2 D = some (.lst (cs.map V.int)) := s2 _ _ hDs
        -- cells + [len(cells) + 3]
        refine ⟨.ref D, rfl, .ref D, rfl, D, _, rfl, .inl (.inl (.inl hD2)), _, _, rfl, rfl, (by show 1 ≤ sizeLine; decide), fun p hp => ?_⟩
        have npD : D ≠ p := ne_of_none hD2 hp
        have npG : G ≠ p := ne_of_none hGs hp
        refine ⟨D, p, cs.map V.int, _, rfl, rfl, by rw [upd_ne npD]; exact hD2, upd_same, ?_, fun c hc' => ?_⟩
        · rw [List.length_map]
          exact Nat.le_of_lt (small1000 (by show cs.length + 1 ≤ 1000; omega))
        · have ncp : c ≠ p := fun e => by
            rw [e, upd_same] at hc'
            cases hc'
          have hc2 : H2 c = none := by
            rw [upd_ne ncp] at hc'
            exact hc'
          have ncG : G ≠ c := ne_of_none hGs hc2
          refine ⟨(by show 3 ≤ sizeLine; decide), fun d hd => ?_⟩
          have ndc : d ≠ c := fun e => by
            rw [e, upd_same] at hd
            cases hd
          rw [upd_ne ndc] at hd
          have ndp : d ≠ p := fun e => by
            rw [e, upd_same] at hd
            cases hd
          rw [upd_ne ndp] at hd
          have ndG : G ≠ d := ne_of_none hGs hd
          have s3 : Same H H2 := s1.trans s2
          refine k d G c _ (fun b o e => ?_) (s3.free hd) (s1.free hG) (s3.free hc2) ⟨⟨gs, cs ++ [((cs.length : Nat) : Int) + 3], 0, upd_same, ?_, ?_, ?_, ?_, by decide, by decide⟩, ndG.symm, ndc, ncG⟩
          · have e2 := s3 _ _ e
            rw [upd_ne (ne_of_none e2 hd), upd_ne (ne_of_none e2 hc2), upd_ne (ne_of_none e2 hp)]
            exact e2
          · rw [upd_ne ndG, upd_ne ncG, upd_ne npG]
            exact hGs
          · rw [upd_ne ndc.symm, upd_same, List.map_append, List.length_map]
            rfl
          · rw [List.length_append]
            show 0 < cs.length + 1
            omega
          · rw [List.length_append]
            show cs.length + 1 ≤ 100
            omega
def spNext : Sp := fun vs H Q _ => ∃ (d g c : Addr) (k m : Int), vs = [.ref d, .int m] ∧ 0 < m ∧ m < 1208925819614629174706176 ∧ Dk d g c k H ∧ k ≤ 1000000000 ∧
  ∀ (r : Int) (H' : Hp), 0 ≤ r → r < m → Dk d g c (k + 1) H' → Fr d g H H' → Q (.int r) H'
def lenAt (g : Addr) (H : Hp) : Nat := match H g with
  | some (.lst xs) => xs.length
  | _ => 0
theorem lenAt_of {g : Addr} {H : Hp} {xs : List V} (h : H g = some (.lst xs)) : lenAt g H = xs.length := by
  unfold lenAt
  rw [h]
theorem ok__law_next (T : Tx K mg A) : FnOk P w K mg base CX0 1 A.f__law_next A.d__law_next ["_law_deck_here", "_law_many"] spNext := by
  refine T.d__law_next.F.ok sc__law_next (fun vs H Q E h => ?_) (fun cdv A outer s H vs Q E hr h => ?_)
  · obtain ⟨d, g, c, k, m, rfl, _⟩ := h
    rfl
  · obtain ⟨d, g, c, k, m, rfl, hm, hm2, D0, hk, q⟩ := h
    have hW : m.natAbs < 2 ^ 80 := by
      show m.natAbs < 1208925819614629174706176
      omega
    refine ⟨_, (pss_cons (ps_while PassesOwn.never (pt_cmpR (op_neD hr.units) (pe_ix ix_list (pv 0) pe_int (fun _ _ => rfl)) (pe_lst pa_nil) (nomark _))
        (pss_cons (ps_set (i := 4) sc__law_next.nd rfl (.inl rfl) (pe_ix ix_list (pe_ix ix_list (pv 0) pe_int (fun _ _ => rfl)) pe_int (fun _ _ => rfl)))
        (pss_cons (ps_if (pt_cmpR op_gt (pv 4) pe_int (nomark _))
        (pss_cons (ps_asg (pe_op op_fdivW (pv 4) (pv 1)) (pg_sub (pe_ix ix_list (pv 0) pe_int (fun _ _ => rfl)) pe_int set_list))
        (pss_one (ps_ret (pe_op op_mod (pv 4) (pv 1)))))
        pss_nil)
        (pss_one (ps_expr (pe_bm PySem.F.plainAttrs_list PySem.F.slot_list_pop PySem.F.type_list_pop mt_popAt (pe_ix ix_list (pv 0) pe_int (fun _ _ => rfl)) (pa_cons pe_int pa_nil)))))))
        (pss_cons (ps_asg (pe_op op_add (pe_ix ix_list (pv 0) pe_int (fun _ _ => rfl)) pe_int) (pg_sub (pv 0) pe_int set_list))
        (pss_cons (ps_set (i := 2) sc__law_next.nd rfl (.inl rfl) (pe_op op_mod (pe_ix ix_list (pe_ix ix_list (pv 0) pe_int (fun _ _ => rfl)) (pe_op op_mod (pe_ix ix_list (pv 0) pe_int (fun _ _ => rfl)) (pe_callB call_len_seq (by rfl) T.b_len PySem.boot_len (pa_cons (pe_ix ix_list (pv 0) pe_int (fun _ _ => rfl)) pa_nil))) (fun _ _ => rfl)) pe_int))
        (pss_cons (ps_set (i := 3) sc__law_next.nd rfl (.inl rfl) (pe_op op_add (pe_op op_add (pe_op op_mul (pv 2) (pe_op op_add pe_int (pe_op op_mul pe_int (pe_ix ix_list (pv 0) pe_int (fun _ _ => rfl))))) (pe_op op_mul (pe_op op_mul pe_int (pe_ix ix_list (pv 0) pe_int (fun _ _ => rfl))) (pe_ix ix_list (pv 0) pe_int (fun _ _ => rfl)))) pe_int))
        (pss_cons (ps_set (i := 3) sc__law_next.nd rfl (.inl rfl) (pe_op op_mod (pv 3) pe_int))
        (pss_one (ps_ret (pe_op op_mod (pe_op op_fdivW (pe_op op_mod (pe_op op_mul (pv 3) (pv 3)) pe_int) pe_int) (pv 1))))))))), ?_⟩
    refine while_by (fun σ H' => ∃ v2 v3 v4, σ = [some (.ref d), some (.int m), v2, v3, v4] ∧ Dk d g c k H' ∧ Fr d g H H') (fun _ H' => lenAt g H') ⟨none, none, none, rfl, D0, Fr.refl _ _ _⟩ ?_ ?_
    · rintro σ H1 ⟨v2, v3, v4, rfl, D1, f1⟩
      obtain ⟨gs, cs, n, h1, h2, h3, h4, h5, h6, h7⟩ := D1.ex
      refine ⟨.ref d, rfl, d, _, 0, .ref g, rfl, rfl, SqL.of h1, atI_zero, Nat.zero_le _, fun p hp => ?_⟩
      obtain ⟨npd, npg, npc⟩ := D1.nd hp
      have k1 : upd H1 p (.lst []) d = some (.lst [.ref g, .ref c, .int n]) := by
        rw [upd_ne npd.symm]
        exact h1
      have k2 : upd H1 p (.lst []) g = some (.lst (gs.map V.int)) := by
        rw [upd_ne npg.symm]
        exact h2
      have k3 : upd H1 p (.lst []) c = some (.lst (cs.map V.int)) := by
        rw [upd_ne npc.symm]
        exact h3
      have f2 : Fr d g H (upd H1 p (.lst [])) := f1.trans (.new hp)
      have eL : lenAt g H1 = gs.length := by rw [lenAt_of h2, List.length_map]
      have k4 : upd H1 p (.lst []) p = some (.lst []) := upd_same
      generalize upd H1 p (.lst []) = H2 at k1 k2 k3 k4 f2 ⊢
      refine ⟨.list (gs.map PyData.int), .list ([].map PyData.int), .lst (SqL.of k2) (dp_ints gs), .lst (SqL.of k4) .nil, sh_ints gs, sh_ints [], _, rfl, ?_⟩
      cases gs with
      | cons x r =>
        -- rest = deck[0][0]
        refine ⟨.ref d, rfl, d, _, 0, _, rfl, rfl, SqL.of k1, atI_zero, g, _, 0, _, rfl, rfl, SqL.of k2, atI_zero, ?_⟩
        refine ⟨.int x, rfl, x, 0, rfl, rfl, _, rfl, ite2 (fun _ => ?_) (fun _ => ?_)⟩
        · -- deck[0][0] = rest // many; return rest % many
          refine ⟨.int x, rfl, .int m, rfl, x, m, rfl, rfl, wide_div hm hW (by decide) (by decide), .ref d, rfl, d, _, 0, _, rfl, rfl, SqL.of k1, atI_zero, g, _, 0, 0, rfl, rfl, k2, ixN_zero (by simp), ?_⟩
          refine ⟨.int x, rfl, .int m, rfl, x, m, rfl, rfl, hm, ?_⟩
          refine q _ _ (Int.emod_nonneg _ (by omega)) (Int.emod_lt_of_pos _ hm) ⟨⟨(x / m) :: r, cs, n, ?_, ?_, ?_, h4, h5, h6, by omega⟩, D1.dg, D1.dc, D1.gc⟩ (f2.trans .atg)
          · rw [upd_ne D1.dg]
            exact k1
          · rw [upd_same]
            rfl
          · rw [upd_ne D1.gc.symm]
            exact k3
        · -- deck[0].pop(0)
          refine ⟨.ref d, rfl, d, _, 0, _, rfl, rfl, SqL.of k1, atI_zero, .inl ⟨rfl, _, SqL.of k2⟩, g, _, 0, 0, .int x, rfl, rfl, k2, by decide, by decide, ixN_seq0 (by simp), rfl, ?_⟩
          refine ⟨⟨_, _, _, rfl, ⟨⟨r, cs, n, ?_, ?_, ?_, h4, h5, h6, h7⟩, D1.dg, D1.dc, D1.gc⟩, f2.trans .atg⟩, ?_⟩
          · rw [upd_ne D1.dg]
            exact k1
          · rw [upd_same]
            rfl
          · rw [upd_ne D1.gc.symm]
            exact k3
          · show lenAt g (upd H2 g _) < lenAt g H1
            rw [eL, lenAt_of upd_same]
            show (r.map V.int).length < r.length + 1
            rw [List.length_map]
            omega
      | nil =>
        -- deck[2] = deck[2] + 1
        refine ⟨.ref d, rfl, d, _, 2, _, rfl, rfl, SqL.of k1, atI_nat (j := 2) rfl, n, 1, rfl, rfl, .ref d, rfl, d, _, 2, 2, rfl, rfl, k1, rfl, ?_⟩
        have j1 : upd H2 d (.lst ([V.ref g, V.ref c, V.int n].set 2 (V.int (n + 1)))) d = some (.lst [.ref g, .ref c, .int (n + 1)]) := upd_same
        have j2 : upd H2 d (.lst ([V.ref g, V.ref c, V.int n].set 2 (V.int (n + 1)))) g = some (.lst []) := by
          rw [upd_ne D1.dg.symm]
          exact k2
        have j3 : upd H2 d (.lst ([V.ref g, V.ref c, V.int n].set 2 (V.int (n + 1)))) c = some (.lst (cs.map V.int)) := by
          rw [upd_ne D1.dc.symm]
          exact k3
        have f3 : Fr d g H (upd H2 d (.lst ([V.ref g, V.ref c, V.int n].set 2 (V.int (n + 1))))) := f2.trans .atd
        generalize upd H2 d (.lst ([V.ref g, V.ref c, V.int n].set 2 (V.int (n + 1)))) = H3 at j1 j2 j3 f3 ⊢
        have hl : (0 : Int) < (cs.map V.int).length := by
          rw [List.length_map]
          omega
        obtain ⟨v, hv⟩ := ints_at (cs := cs) (i := (n + 1) % ((cs.map V.int).length : Int)) (Int.emod_nonneg _ (by omega)) (by
          have z := Int.emod_lt_of_pos (n + 1) hl
          rw [List.length_map] at z ⊢
          exact z)
        -- the cell
        refine ⟨.ref d, rfl, d, _, 1, _, rfl, rfl, SqL.of j1, atI_nat (j := 1) rfl, .ref d, rfl, d, _, 2, _, rfl, rfl, SqL.of j1, atI_nat (j := 2) rfl, .ref d, rfl, d, _, 1, _, rfl, rfl, SqL.of j1, atI_nat (j := 1) rfl, c, _, rfl, .inl (SqL.of j3), n + 1, _, rfl, rfl, hl, c, _, _, .int v, rfl, rfl, SqL.of j3, hv, v, 2147483647, rfl, rfl, (by show (0 : Int) < 2147483647; decide), ?_⟩
        have q0 : 0 ≤ v % 2147483647 := Int.emod_nonneg _ (by decide)
        have q1 : v % 2147483647 < 2147483647 := Int.emod_lt_of_pos _ (by decide)
        refine ⟨.int (v % 2147483647), rfl, .ref d, rfl, d, _, 2, _, rfl, rfl, SqL.of j1, atI_nat (j := 2) rfl, 69621, n + 1, rfl, rfl, .inl ⟨by decide, by decide⟩, 48271, _, rfl, rfl, v % 2147483647, _, rfl, rfl, .inl ⟨by omega, by omega⟩,
          .ref d, rfl, d, _, 2, _, rfl, rfl, SqL.of j1, atI_nat (j := 2) rfl, 40692, n + 1, rfl, rfl, .inl ⟨by decide, by decide⟩, .ref d, rfl, d, _, 2, _, rfl, rfl, SqL.of j1, atI_nat (j := 2) rfl, _, n + 1, rfl, rfl, .inr ⟨by omega, by omega⟩, _, _, rfl, rfl, _, 11, rfl, rfl, ?_⟩
        refine ⟨_, rfl, _, 2147483629, rfl, rfl, (by show (0 : Int) < 2147483629; decide), ?_⟩
        refine ⟨_, rfl, _, rfl, _, _, rfl, rfl, .inl (mod_in (by decide) (by decide)), _, 2147483587, rfl, rfl, (by show (0 : Int) < 2147483587; decide), _, 16, rfl, rfl, wide_div (b := 5) (by decide) (by decide) (by decide) (by decide), .int m, rfl, _, m, rfl, rfl, hm, ?_⟩
        exact q _ _ (Int.emod_nonneg _ (by omega)) (Int.emod_lt_of_pos _ hm) ⟨⟨[], cs, n + 1, j1, j2, j3, h4, h5, by omega, by omega⟩, D1.dg, D1.dc, D1.gc⟩ f3
    · rintro σ H1 Q1 Q2 hq ⟨v, e, p, xs, i, v', e1, e2, hs, ha, hz, f⟩
      refine ⟨v, e, p, xs, i, v', e1, e2, hs, ha, hz, fun r hr => ?_⟩
      obtain ⟨d1, d2, a1, a2, a3, a4, kk, ek, qk⟩ := f r hr
      exact ⟨d1, d2, a1, a2, a3, a4, kk, ek, hq _ _ qk⟩
theorem primes_at (T : Tx K mg A) (H : Hp) : SqT K H A.c_PRIMES (prs.map V.int) := by
  obtain ⟨od, its, n, sl, h, v⟩ := T.w_PRIMES
  have e : its.size ≤ sizeLine := by
    have z := v.length
    rw [← Array.length_toList, ← z]
    decide
  exact .inr ⟨_, its, n, h, rfl, rfl, e, v⟩
def spWhole (K : PySem.W.Frag) : Sp := fun vs H Q _ => ∃ (x : V) (o : Option Int), vs = [x] ∧ Th K H x o ∧ Q (.bl o.isSome) H
theorem whole_of {x : V} {H : Hp} {o : Option Int} (h : Th K H x o) : ∃ t, TyB1 K H x t ∧ (isB t "int" && !isB t "bool") = o.isSome := by
  cases o with
  | some i =>
    cases (show x = .int i from h)
    exact ⟨"int", ⟨.base (.int i), by simp⟩, by rw [isB_ii, isB_ib]; rfl⟩
  | none => exact h
theorem ok_is_whole (T : Tx K mg A) : FnOk P w K mg base CX0 1 A.f_is_whole A.d_is_whole ["thing"] (spWhole K) := by
  refine T.d_is_whole.F.ok sc_is_whole (fun vs H Q E h => ?_) (fun cdv A outer s H vs Q E hr h => ?_)
  · obtain ⟨x, t, rfl, _⟩ := h
    rfl
  · obtain ⟨x, o, rfl, th, q⟩ := h
    obtain ⟨t, ⟨ty, ht⟩, e⟩ := whole_of th
    rw [← e] at q
    refine ⟨_, (pss_one (ps_ret (pe_and (pe_callB call_isi (by rfl) T.b_isinstance PyProof.Rows.boot_isinstance (pa_cons (pv 0) (pa_cons (pe_bltn (v := .ty "int") (by rfl) T.b_int PyProof.Rows.boot_int rfl) pa_nil))) (pe_one (pe_not (pe_callB call_isi (by rfl) T.b_isinstance PyProof.Rows.boot_isinstance (pa_cons (pv 0) (pa_cons (pe_bltn (v := .ty "bool") (by rfl) T.b_bool PyProof.Rows.boot_bool rfl) pa_nil)))))))), ?_⟩
    refine ⟨x, rfl, x, _, _, _, _, rfl, .ty "int", ty, isi_of "int" ht (.inl rfl), _, rfl, ite2 (fun e => ?_) (fun e => ?_)⟩
    · refine ⟨x, rfl, x, _, _, _, _, rfl, .ty "bool", ty, isi_of "bool" ht (.inr (.inl rfl)), _, rfl, ?_⟩
      rw [e] at q
      exact q
    · have e2 : isB t "int" = false := Bool.eq_false_iff.mpr e
      rw [e2] at q
      exact q
theorem ok__law_is_whole (T : Tx K mg A) : FnOk P w K mg base CX0 1 A.f__law_is_whole A.d__law_is_whole ["_law_thing"] (spWhole K) := by
  refine T.d__law_is_whole.F.ok sc__law_is_whole (fun vs H Q E h => ?_) (fun cdv A outer s H vs Q E hr h => ?_)
  · obtain ⟨x, t, rfl, _⟩ := h
    rfl
  · obtain ⟨x, o, rfl, th, q⟩ := h
    obtain ⟨t, ⟨ty, ht⟩, e⟩ := whole_of th
    rw [← e] at q
    refine ⟨_, (pss_one (ps_ret (pe_and (pe_callB call_isi (by rfl) T.b_isinstance PyProof.Rows.boot_isinstance (pa_cons (pv 0) (pa_cons (pe_bltn (v := .ty "int") (by rfl) T.b_int PyProof.Rows.boot_int rfl) pa_nil))) (pe_one (pe_not (pe_callB call_isi (by rfl) T.b_isinstance PyProof.Rows.boot_isinstance (pa_cons (pv 0) (pa_cons (pe_bltn (v := .ty "bool") (by rfl) T.b_bool PyProof.Rows.boot_bool rfl) pa_nil)))))))), ?_⟩
    refine ⟨x, rfl, x, _, _, _, _, rfl, .ty "int", ty, isi_of "int" ht (.inl rfl), _, rfl, ite2 (fun e => ?_) (fun e => ?_)⟩
    · refine ⟨x, rfl, x, _, _, _, _, rfl, .ty "bool", ty, isi_of "bool" ht (.inr (.inl rfl)), _, rfl, ?_⟩
      rw [e] at q
      exact q
    · have e2 : isB t "int" = false := Bool.eq_false_iff.mpr e
      rw [e2] at q
      exact q
def spPrime (K : PySem.W.Frag) : Sp := fun vs H Q _ => ∃ (x : V) (o : Option Int), vs = [x] ∧ Th K H x o ∧ Q (.bl (isP o)) H
theorem ok_is_prime (T : Tx K mg A) : FnOk P w K mg base CX0 2 A.f_is_prime A.d_is_prime ["thing"] (spPrime K) := by
  have G_is_whole : FnOk P w K mg base CX0 1 A.f_is_whole A.d_is_whole ["thing"] (spWhole K) := ok_is_whole T
  refine T.d_is_prime.F.ok sc_is_prime (fun vs H Q E h => ?_) (fun cdv A outer s H vs Q E hr h => ?_)
  · obtain ⟨x, t, rfl, _⟩ := h
    rfl
  · obtain ⟨x, o, rfl, th, q⟩ := h
    refine ⟨_, (pss_one (ps_ret (pe_and (pe_call G_is_whole hr (by rfl) T.d_is_whole.g T.d_is_whole.F.kp T.d_is_whole.b .nil pass0 (pa_cons (pv 0) pa_nil)) (pe_one (pe_cmpR op_in_seq (pv 0) (pe_glob (v := .ref _) (by rfl) T.v_PRIMES rfl) (by rfl)))))), ?_⟩
    refine ⟨x, rfl, x, o, rfl, th, _, rfl, ?_⟩
    cases o with
    | none => exact q
    | some i =>
      cases (show x = .int i from th)
      exact ⟨.int i, rfl, _, _, rfl, .inr (primes_at T _), rfl, flat_ints _, q⟩
def spRound (K : PySem.W.Frag) : Sp := fun vs H Q _ => ∃ (p : Int) (x : V) (o : Option Int), vs = [.int p, x] ∧ Th K H x o ∧ Q (.bl (isR p o)) H
theorem ok_is_round (T : Tx K mg A) : FnOk P w K mg base CX0 2 A.f_is_round A.d_is_round ["p", "thing"] (spRound K) := by
  have G_is_whole : FnOk P w K mg base CX0 1 A.f_is_whole A.d_is_whole ["thing"] (spWhole K) := ok_is_whole T
  refine T.d_is_round.F.ok sc_is_round (fun vs H Q E h => ?_) (fun cdv A outer s H vs Q E hr h => ?_)
  · obtain ⟨p, x, t, rfl, _⟩ := h
    rfl
  · obtain ⟨p, x, o, rfl, th, q⟩ := h
    refine ⟨_, (pss_one (ps_ret (pe_and (pe_call G_is_whole hr (by rfl) T.d_is_whole.g T.d_is_whole.F.kp T.d_is_whole.b .nil pass0 (pa_cons (pv 1) pa_nil)) (pe_one (pe_chain op_le op_lt pe_int (pv 1) (pv 0)))))), ?_⟩
    refine ⟨x, rfl, x, o, rfl, th, _, rfl, ?_⟩
    cases o with
    | none => exact q
    | some i =>
      cases (show x = .int i from th)
      refine ⟨.int i, rfl, 0, i, rfl, rfl, _, rfl, ite2 (fun e => ?_) (fun e => ?_)⟩
      · refine ⟨.int p, rfl, i, p, rfl, rfl, ?_⟩
        have q' : Q (.bl (decide (0 ≤ i) && decide (i < p))) H := q
        rw [e] at q'
        exact q'
      · have q' : Q (.bl (decide (0 ≤ i) && decide (i < p))) H := q
        rw [Bool.eq_false_iff.mpr e] at q'
        exact q'
def spTruth : Sp := fun vs H Q _ => ∃ b : Bool, vs = [.bl b, .bl b] ∧ Q (.bl true) H
theorem ok__law_truth (T : Tx K mg A) : FnOk P w K mg base CX0 1 A.f__law_truth A.d__law_truth ["_law_found", "_law_due"] spTruth := by
  refine T.d__law_truth.F.ok sc__law_truth (fun vs H Q E h => ?_) (fun cdv A outer s H vs Q E hr h => ?_)
  · obtain ⟨b, rfl, _⟩ := h
    rfl
  · obtain ⟨b, rfl, q⟩ := h
    refine ⟨_, (pss_one (ps_ret (pe_and (pe_callB call_isi (by rfl) T.b_isinstance PyProof.Rows.boot_isinstance (pa_cons (pv 0) (pa_cons (pe_bltn (v := .ty "bool") (by rfl) T.b_bool PyProof.Rows.boot_bool rfl) pa_nil))) (pe_one (pe_cmpR op_eq (pv 0) (pv 1) (nomark _)))))), ?_⟩
    refine ⟨.bl b, rfl, .bl b, _, _, _, true, rfl, .ty "bool", .base (.bl b), kit_ty (by decide +kernel), _, rfl, ?_⟩
    refine ⟨.bl b, rfl, .bl b, rfl, rfl, ?_⟩
    rw [decide_eq_true rfl]
    exact q
def spThings (K : PySem.W.Frag) : Sp := fun vs H Q _ => ∃ (d g c : Addr) (k : Int), vs = [.ref d] ∧ Dk d g c k H ∧ k ≤ 1000 ∧
  ∀ (L : Addr) (xs : List V) (H' : Hp), Dk d g c (k + 6) H' → Fr d g H H' → H' L = some (.lst xs) → xs.length ≤ 100 → (∀ x ∈ xs, ∃ o, Th K H' x o) → Q (.ref L) H'
theorem ok__law_things (T : Tx K mg A) : FnOk P w K mg base CX0 2 A.f__law_things A.d__law_things ["_law_deck_here"] (spThings K) := by
  have G__law_next : FnOk P w K mg base CX0 1 A.f__law_next A.d__law_next ["_law_deck_here", "_law_many"] spNext := ok__law_next T
  refine T.d__law_things.F.ok sc__law_things (fun vs H Q E h => ?_) (fun cdv A outer s H vs Q E hr h => ?_)
  · obtain ⟨d, g, c, k, rfl, _⟩ := h
    rfl
  · obtain ⟨d, g, c, k, rfl, D0, hk, q⟩ := h
    refine ⟨_, (pss_cons (ps_set (i := 1) sc__law_things.nd rfl (.inl rfl) (pe_op op_add (pe_ix ix_list (pe_lst (pa_cons (pe_op op_pow pe_int pe_int) (pa_cons (pe_op op_pow pe_int pe_int) (pa_cons (pe_op op_pow pe_int pe_int) pa_nil)))) (pe_call G__law_next hr (by rfl) T.d__law_next.g T.d__law_next.F.kp T.d__law_next.b .nil pass0 (pa_cons (pv 0) (pa_cons pe_int pa_nil))) (fun _ _ => rfl)) (pe_call G__law_next hr (by rfl) T.d__law_next.g T.d__law_next.F.kp T.d__law_next.b .nil pass0 (pa_cons (pv 0) (pa_cons pe_int pa_nil)))))
        (pss_cons (ps_set (i := 2) sc__law_things.nd rfl (.inl rfl) (pe_lst (pa_cons (pe_call G__law_next hr (by rfl) T.d__law_next.g T.d__law_next.F.kp T.d__law_next.b .nil pass0 (pa_cons (pv 0) (pa_cons pe_int pa_nil))) (pa_cons (pe_call G__law_next hr (by rfl) T.d__law_next.g T.d__law_next.F.kp T.d__law_next.b .nil pass0 (pa_cons (pv 0) (pa_cons pe_int pa_nil))) (pa_cons (pe_op op_sub pe_int (pe_call G__law_next hr (by rfl) T.d__law_next.g T.d__law_next.F.kp T.d__law_next.b .nil pass0 (pa_cons (pv 0) (pa_cons pe_int pa_nil)))) (pa_cons (pv 1) (pa_cons (pe_op op_sub pe_int (pv 1)) (pa_cons pe_bl (pa_cons pe_bl pa_nil)))))))))
        (pss_one (ps_ret (pe_op op_cat (pv 2) (pe_lst (pa_cons pe_non (pa_cons pe_str (pa_cons pe_str (pa_cons (pe_tup pa_nil) (pa_cons (pe_tup (pa_cons pe_int pa_nil)) (pa_cons (pe_lst pa_nil) (pa_cons (pe_lst (pa_cons pe_int pa_nil)) (pa_cons pe_dnewK (pa_cons (pe_disp (pps_cons pe_int pe_int pps_nil) rfl rfl (by simp) (by decide)) (pa_cons (pe_tup (pa_cons pe_int (pa_cons pe_int pa_nil))) (pa_cons pe_str (pa_cons (pe_op op_add pe_int (pe_call G__law_next hr (by rfl) T.d__law_next.g T.d__law_next.F.kp T.d__law_next.b .nil pass0 (pa_cons (pv 0) (pa_cons pe_int pa_nil)))) (pa_cons (pe_lst (pa_cons (pe_tup (pa_cons pe_int pa_nil)) pa_nil)) pa_nil))))))))))))))))))), ?_⟩
    -- great
    refine ⟨10, 6, rfl, rfl, ⟨by decide, by decide, by decide⟩, 10, 18, rfl, rfl, ⟨by decide, by decide, by decide⟩, 10, 40, rfl, rfl, ⟨by decide, by decide, by decide⟩, (by show 3 ≤ sizeLine; decide), fun p hp => ?_⟩
    have np := D0.nd hp
    have e0 : upd H p (.lst ([10 ^ (6 : Int).toNat, 10 ^ (18 : Int).toNat, 10 ^ (40 : Int).toNat].map V.int)) p = some (.lst ([10 ^ (6 : Int).toNat, 10 ^ (18 : Int).toNat, 10 ^ (40 : Int).toNat].map V.int)) := upd_same
    have z0 : Same H (upd H p (.lst ([10 ^ (6 : Int).toNat, 10 ^ (18 : Int).toNat, 10 ^ (40 : Int).toNat].map V.int))) := same_upd hp
    refine ⟨.ref d, rfl, d, g, c, k, 3, rfl, by decide, by decide, D0.same z0, by omega, fun r H1 r0 r1 D1 f1 => ?_⟩
    have e1 := f1 p _ np.1 np.2.1 e0
    obtain ⟨v, hv⟩ := ints_at (cs := [10 ^ (6 : Int).toNat, 10 ^ (18 : Int).toNat, 10 ^ (40 : Int).toNat]) r0 r1
    refine ⟨p, _, r, .int v, rfl, rfl, SqL.of e1, hv, .ref d, rfl, d, g, c, _, 50, rfl, by decide, by decide, D1, by omega, fun r2 H2 r3 r4 D2 f2 => ⟨v, r2, rfl, rfl, ?_⟩⟩
    have F2 : Fr d g H H2 := ((Fr.of_same z0).trans f1).trans f2
    generalize upd H p (.lst ([10 ^ (6 : Int).toNat, 10 ^ (18 : Int).toNat, 10 ^ (40 : Int).toNat].map V.int)) = HH at *
    -- some
    refine ⟨.ref d, rfl, d, g, c, _, 20, rfl, by decide, by decide, D2, by omega, fun a1 H3 _ _ D3 f3 => ?_⟩
    refine ⟨.ref d, rfl, d, g, c, _, 20, rfl, by decide, by decide, D3, by omega, fun a2 H4 _ _ D4 f4 => ?_⟩
    refine ⟨.ref d, rfl, d, g, c, _, 20, rfl, by decide, by decide, D4, by omega, fun a3 H5 _ _ D5 f5 => ⟨0, a3, rfl, rfl, .int (v + r2), rfl, .int (v + r2), rfl, 0, v + r2, rfl, rfl, (by show 7 ≤ sizeLine; decide), fun S hS => ?_⟩⟩
    have F5 : Fr d g H H5 := ((F2.trans f3).trans f4).trans f5
    have nS := D5.nd hS
    have eS : upd H5 S (.lst [.int a1, .int a2, .int (0 - a3), .int (v + r2), .int (0 - (v + r2)), .bl true, .bl false]) S = some (.lst [.int a1, .int a2, .int (0 - a3), .int (v + r2), .int (0 - (v + r2)), .bl true, .bl false]) := upd_same
    have F6 : Fr d g H (upd H5 S (.lst [.int a1, .int a2, .int (0 - a3), .int (v + r2), .int (0 - (v + r2)), .bl true, .bl false])) := F5.trans (.new hS)
    have D6 := D5.same (same_upd (o := .lst [.int a1, .int a2, .int (0 - a3), .int (v + r2), .int (0 - (v + r2)), .bl true, .bl false]) hS)
    refine ⟨.ref S, rfl, ?_⟩
    generalize upd H5 S (.lst [.int a1, .int a2, .int (0 - a3), .int (v + r2), .int (0 - (v + r2)), .bl true, .bl false]) = H6 at *
    refine ⟨Nat.zero_le _, fun p1 h1 => ?_⟩
    have n1 := D6.nd h1
    have y1 : upd H6 p1 (.tup []) p1 = some (.tup []) := upd_same
    have z1 : Same H6 (upd H6 p1 (.tup [])) := same_upd h1
    generalize upd H6 p1 (.tup []) = H7 at *
    refine ⟨(by show 1 ≤ sizeLine; decide), fun p2 h2 => ?_⟩
    have n2 := (D6.same z1).nd h2
    have y2 : upd H7 p2 (.tup [.int 5]) p2 = some (.tup [.int 5]) := upd_same
    have z2 : Same H7 (upd H7 p2 (.tup [.int 5])) := same_upd h2
    generalize upd H7 p2 (.tup [.int 5]) = H8 at *
    refine ⟨Nat.zero_le _, fun p3 h3 => ?_⟩
    have n3 := ((D6.same z1).same z2).nd h3
    have y3 : upd H8 p3 (.lst []) p3 = some (.lst []) := upd_same
    have z3 : Same H8 (upd H8 p3 (.lst [])) := same_upd h3
    generalize upd H8 p3 (.lst []) = H9 at *
    refine ⟨(by show 1 ≤ sizeLine; decide), fun p4 h4 => ?_⟩
    have n4 := (((D6.same z1).same z2).same z3).nd h4
    have y4 : upd H9 p4 (.lst [.int 5]) p4 = some (.lst [.int 5]) := upd_same
    have z4 : Same H9 (upd H9 p4 (.lst [.int 5])) := same_upd h4
    generalize upd H9 p4 (.lst [.int 5]) = H10 at *
    intro p5 h5
    have D10 := (((D6.same z1).same z2).same z3).same z4
    have n5 := D10.nd h5
    have y5 : upd H10 p5 (.dK []) p5 = some (.dK []) := upd_same
    have z5 : Same H10 (upd H10 p5 (.dK [])) := same_upd h5
    generalize upd H10 p5 (.dK []) = H11 at *
    intro p6 h6
    have D11 := D10.same z5
    have n6 := D11.nd h6
    refine ⟨upd_same, [(.inl 5, .int 5)], rfl, by decide, ?_⟩
    have y6 : upd (upd H11 p6 (.dK [])) p6 (.dK (mergeK [] [(.inl 5, .int 5)])) p6 = some (.dK (mergeK [] [(.inl 5, .int 5)])) := upd_same
    have z6 : Same H11 (upd (upd H11 p6 (.dK [])) p6 (.dK (mergeK [] [(.inl 5, .int 5)]))) := fun b o e => by
      rw [upd_ne (ne_of_none e h6), upd_ne (ne_of_none e h6)]
      exact e
    generalize upd (upd H11 p6 (.dK [])) p6 (.dK (mergeK [] [(.inl 5, .int 5)])) = H12 at *
    have D12 := D11.same z6
    refine ⟨(by show 2 ≤ sizeLine; decide), fun p7 h7 => ?_⟩
    have n7 := D12.nd h7
    have y7 : upd H12 p7 (.tup [.int 2, .int 3]) p7 = some (.tup [.int 2, .int 3]) := upd_same
    have z7 : Same H12 (upd H12 p7 (.tup [.int 2, .int 3])) := same_upd h7
    generalize upd H12 p7 (.tup [.int 2, .int 3]) = H13 at *
    have D13 := D12.same z7
    refine ⟨.ref d, rfl, d, g, c, _, 14, rfl, by decide, by decide, D13, by omega, fun a4 H14 _ _ D14 f14 => ⟨1, a4, rfl, rfl, (by show 1 ≤ sizeLine; decide), fun p8 h8 => ?_⟩⟩
    have z8 : Same H14 (upd H14 p8 (.tup [.int 5])) := same_upd h8
    generalize upd H14 p8 (.tup [.int 5]) = H15 at *
    refine ⟨(by show 1 ≤ sizeLine; decide), fun p9 h9 => ?_⟩
    have y9 : upd H15 p9 (.lst [.ref p8]) p9 = some (.lst [.ref p8]) := upd_same
    have z9 : Same H15 (upd H15 p9 (.lst [.ref p8])) := same_upd h9
    generalize upd H15 p9 (.lst [.ref p8]) = H16 at *
    refine ⟨(by show 13 ≤ sizeLine; decide), fun M hM => ?_⟩
    have w6 : Same H7 H13 := ((((z2.trans z3).trans z4).trans z5).trans z6).trans z7
    have w16 : Same H14 H16 := z8.trans z9
    have at16 : ∀ {b : Addr} {o : HO}, b ≠ d ∧ b ≠ g ∧ b ≠ c → H13 b = some o → H16 b = some o := fun n e => w16 _ _ (f14 _ _ n.1 n.2.1 e)
    have tS : H16 S = some (.lst [.int a1, .int a2, .int (0 - a3), .int (v + r2), .int (0 - (v + r2)), .bl true, .bl false]) := at16 nS (w6 _ _ (z1 _ _ eS))
    have t1 := at16 n1 (w6 _ _ y1)
    have t2 := at16 n2 (((((z3.trans z4).trans z5).trans z6).trans z7) _ _ y2)
    have t3 := at16 n3 ((((z4.trans z5).trans z6).trans z7) _ _ y3)
    have t4 := at16 n4 (((z5.trans z6).trans z7) _ _ y4)
    have t5 := at16 n5 ((z6.trans z7) _ _ y5)
    have t6 := at16 n6 (z7 _ _ y6)
    have t7 := at16 n7 y7
    have D16 := D14.same w16
    have F16 : Fr d g H H16 := ((F6.trans (.of_same (z1.trans w6))).trans f14).trans (.of_same w16)
    have zM : Same H16 (upd H16 M (.lst [.non, .str "5", .str "", .ref p1, .ref p2, .ref p3, .ref p4, .ref p5, .ref p6, .ref p7, .str "2", .int (1 + a4), .ref p9])) := same_upd hM
    have yM : upd H16 M (.lst [.non, .str "5", .str "", .ref p1, .ref p2, .ref p3, .ref p4, .ref p5, .ref p6, .ref p7, .str "2", .int (1 + a4), .ref p9]) M = some (.lst [.non, .str "5", .str "", .ref p1, .ref p2, .ref p3, .ref p4, .ref p5, .ref p6, .ref p7, .str "2", .int (1 + a4), .ref p9]) := upd_same
    refine ⟨S, M, _, _, rfl, rfl, zM _ _ tS, yM, (by show 20 ≤ sizeLine; decide), fun L hL => ?_⟩
    have zL := zM.trans (same_upd (o := .lst ([.int a1, .int a2, .int (0 - a3), .int (v + r2), .int (0 - (v + r2)), .bl true, .bl false] ++ [.non, .str "5", .str "", .ref p1, .ref p2, .ref p3, .ref p4, .ref p5, .ref p6, .ref p7, .str "2", .int (1 + a4), .ref p9])) hL)
    refine q L _ _ ((D16.same zL).mono (by omega)) (F16.trans (.of_same zL)) upd_same (by show 20 ≤ 100; decide) ?_
    generalize upd (upd H16 M _) L _ = HL at *
    intro x hx
    simp only [List.cons_append, List.nil_append, List.mem_cons, List.not_mem_nil, or_false] at hx
    rcases hx with rfl | rfl | rfl | rfl | rfl | rfl | rfl | rfl | rfl | rfl | rfl | rfl | rfl | rfl | rfl | rfl | rfl | rfl | rfl | rfl
    · exact ⟨some _, rfl⟩
    · exact ⟨some _, rfl⟩
    · exact ⟨some _, rfl⟩
    · exact ⟨some _, rfl⟩
    · exact ⟨some _, rfl⟩
    · exact ⟨none, "bool", ⟨.base (.bl _), by simp⟩, by decide +kernel⟩
    · exact ⟨none, "bool", ⟨.base (.bl _), by simp⟩, by decide +kernel⟩
    · exact ⟨none, "NoneType", ⟨.base .non, by simp⟩, by decide +kernel⟩
    · exact ⟨none, "str", ⟨.base (.str _), by simp⟩, by decide +kernel⟩
    · exact ⟨none, "str", ⟨.base (.str _), by simp⟩, by decide +kernel⟩
    · exact ⟨none, "tuple", ⟨.base (.tup (zL _ _ t1)), by simp⟩, by decide +kernel⟩
    · exact ⟨none, "tuple", ⟨.base (.tup (zL _ _ t2)), by simp⟩, by decide +kernel⟩
    · exact ⟨none, "list", ⟨.base (.lst (zL _ _ t3)), by simp⟩, by decide +kernel⟩
    · exact ⟨none, "list", ⟨.base (.lst (zL _ _ t4)), by simp⟩, by decide +kernel⟩
    · exact ⟨none, "dict", ⟨.base (.dK (zL _ _ t5)), by simp⟩, by decide +kernel⟩
    · exact ⟨none, "dict", ⟨.base (.dK (zL _ _ t6)), by simp⟩, by decide +kernel⟩
    · exact ⟨none, "tuple", ⟨.base (.tup (zL _ _ t7)), by simp⟩, by decide +kernel⟩
    · exact ⟨none, "str", ⟨.base (.str _), by simp⟩, by decide +kernel⟩
    · exact ⟨some _, rfl⟩
    · exact ⟨none, "list", ⟨.base (.lst (zL _ _ y9)), by simp⟩, by decide +kernel⟩
def prD : PyData := .tuple [.tuple (prs.map PyData.int), .int 10]
theorem dp_prs {H : Hp} {p q : Addr} (h1 : SqT K H p (prs.map V.int)) (h2 : H q = some (.tup [.ref p, .int 10])) : Dp K H (.ref q) prD :=
  .tup (SqT.of h2) (.cons (.tup h1 (dp_ints prs)) (.cons (.int 10) .nil))
theorem prD_ok : prD.showable = true ∧ prD.hasDict = false ∧ prD.depth ≤ 64 ∧ prD.shown.length ≤ sizeLine := by decide +kernel
theorem ok_law (T : Tx K mg A) : LawOk P w K mg A.f_law := by
  refine law_at (k := 2) T.d_law sc_law ⟨rfl, by decide, by decide⟩ fun base t H a ns cdv hlen hS hr => ?_
  have G__law_deck : FnOk P w K mg base CX0 1 A.f__law_deck A.d__law_deck ["_law_script"] (spDeck K) := ok__law_deck T
  have G__law_things : FnOk P w K mg base CX0 2 A.f__law_things A.d__law_things ["_law_deck_here"] (spThings K) := ok__law_things T
  have G__law_is_whole : FnOk P w K mg base CX0 1 A.f__law_is_whole A.d__law_is_whole ["_law_thing"] (spWhole K) := ok__law_is_whole T
  have G__law_truth : FnOk P w K mg base CX0 1 A.f__law_truth A.d__law_truth ["_law_found", "_law_due"] spTruth := ok__law_truth T
  have G_is_prime : FnOk P w K mg base CX0 2 A.f_is_prime A.d_is_prime ["thing"] (spPrime K) := ok_is_prime T
  have G_is_round : FnOk P w K mg base CX0 2 A.f_is_round A.d_is_round ["p", "thing"] (spRound K) := ok_is_round T
  obtain ⟨tkP, h_POSTS⟩ := T.v_POSTS
  refine ⟨_, (pss_cons (ps_set (i := 1) sc_law.nd rfl (.inl rfl) (pe_call G__law_deck (hr.mono (by decide)) (by rfl) T.d__law_deck.g T.d__law_deck.F.kp T.d__law_deck.b .nil pass0 (pa_cons (pv 0) pa_nil)))
        (pss_cons (ps_set (i := 2) sc_law.nd rfl (.inl rfl) (pe_lst (pa_cons pe_int (pa_cons pe_int (pa_cons pe_int (pa_cons pe_int (pa_cons pe_int (pa_cons pe_int pa_nil))))))))
        (pss_cons (ps_if (pt_cmpR op_ne (pe_callB (call_reprD rfl (ru80 hr)) (by rfl) T.b_repr PyProof.Rows.boot_repr (pa_cons (pe_tup (pa_cons (pe_glob (v := .ref _) (by rfl) T.v_PRIMES rfl) (pa_cons (pe_glob (v := .int 10) (by rfl) h_POSTS ⟨_, rfl⟩) pa_nil))) pa_nil)) (pe_callB (call_reprD rfl (ru80 hr)) (by rfl) T.b_repr PyProof.Rows.boot_repr (pa_cons (pe_tup (pa_cons (pe_callTy call_tuple_of (by rfl) T.b_tuple PyProof.Rows.boot_tuple (pa_cons (pv 2) pa_nil)) (pa_cons pe_int pa_nil))) pa_nil)) (nomark _))
        (pss_one (ps_ret pe_bl))
        pss_nil)
        (pss_cons (ps_set (i := 3) sc_law.nd rfl (.inl rfl) (pe_op op_cat (pe_call G__law_things hr (by rfl) T.d__law_things.g T.d__law_things.F.kp T.d__law_things.b .nil pass0 (pa_cons (pv 1) pa_nil)) (pe_listRg rfl (by rfl) T.b_list (prg_2 (by rfl) T.b_range (pe_un un_neg pe_int) pe_int))))
        (pss_cons (ps_for PassesOwn.never rfl (pi_list (pv 3)) (pg_name (i := 4) sc_law.nd rfl (.inl rfl))
        (pss_cons (ps_set (i := 5) sc_law.nd rfl (.inl rfl) (pe_and (pe_call G__law_is_whole (hr.mono (by decide)) (by rfl) T.d__law_is_whole.g T.d__law_is_whole.F.kp T.d__law_is_whole.b .nil pass0 (pa_cons (pv 4) pa_nil)) (pe_one (pe_cmpR op_in_seq (pv 4) (pv 2) (by rfl)))))
        (pss_cons (ps_if (PW.pt (pw_or (pt_not (pt_val (pe_call G__law_truth (hr.mono (by decide)) (by rfl) T.d__law_truth.g T.d__law_truth.F.kp T.d__law_truth.b .nil pass0 (pa_cons (pe_call G_is_prime hr (by rfl) T.d_is_prime.g T.d_is_prime.F.kp T.d_is_prime.b .nil pass0 (pa_cons (pv 4) pa_nil)) (pa_cons (pv 5) pa_nil))))) (pw_or1 (pt_not (pt_val (pe_call G__law_truth (hr.mono (by decide)) (by rfl) T.d__law_truth.g T.d__law_truth.F.kp T.d__law_truth.b .nil pass0 (pa_cons (pe_call G_is_prime hr (by rfl) T.d_is_prime.g T.d_is_prime.F.kp T.d_is_prime.b .nil pass0 (pa_cons (pv 4) pa_nil)) (pa_cons (pv 5) pa_nil))))))))
        (pss_one (ps_ret pe_bl))
        pss_nil)
        (pss_one (ps_for PassesOwn.never rfl (pi_list (pv 2)) (pg_name (i := 6) sc_law.nd rfl (.inl rfl))
        (pss_one (ps_if (pt_not (pt_val (pe_call G__law_truth (hr.mono (by decide)) (by rfl) T.d__law_truth.g T.d__law_truth.F.kp T.d__law_truth.b .nil pass0 (pa_cons (pe_call G_is_round hr (by rfl) T.d_is_round.g T.d_is_round.F.kp T.d_is_round.b .nil pass0 (pa_cons (pv 6) (pa_cons (pv 4) pa_nil))) (pa_cons (pe_and (pe_call G__law_is_whole (hr.mono (by decide)) (by rfl) T.d__law_is_whole.g T.d__law_is_whole.F.kp T.d__law_is_whole.b .nil pass0 (pa_cons (pv 4) pa_nil)) (pe_one (pe_chain op_le op_lt pe_int (pv 4) (pv 6)))) pa_nil)))))
        (pss_one (ps_ret pe_bl))
        pss_nil)))))))
        (pss_one (ps_ret pe_bl))))))), ?_⟩
  -- the deck, the primes
  refine ⟨.ref a, rfl, a, ns, rfl, hS, hlen, fun d g c H0 s0 nd ng nc D0 => ?_⟩
  refine ⟨(by show 6 ≤ sizeLine; decide), fun L hL => ?_⟩
  have nL := D0.nd hL
  have eL : upd H0 L (.lst (prs.map V.int)) L = some (.lst (prs.map V.int)) := upd_same
  have D1 : Dk d g c 0 (upd H0 L (.lst (prs.map V.int))) := D0.same (same_upd hL)
  -- repr
  refine ⟨(by show 2 ≤ sizeLine; decide), fun t1 h1 => ?_⟩
  have e1 : upd (upd H0 L (.lst (prs.map V.int))) t1 (.tup [.ref A.c_PRIMES, .int 10]) t1 = some (.tup [.ref A.c_PRIMES, .int 10]) := upd_same
  have z1 : Same (upd H0 L (.lst (prs.map V.int))) (upd (upd H0 L (.lst (prs.map V.int))) t1 (.tup [.ref A.c_PRIMES, .int 10])) := same_upd h1
  refine ⟨t1, prD, rfl, dp_prs (primes_at T _) e1, prD_ok.1, prD_ok.2.1, prD_ok.2.2.1, prD_ok.2.2.2, .ref L, rfl, L, _, rfl, .inl ⟨SqL.of (z1 _ _ eL), fun t2 h2 => ⟨(by show 2 ≤ sizeLine; decide), fun t3 h3 => ?_⟩⟩⟩
  have z2 := same_upd (o := .tup (prs.map V.int)) h2
  have e2 : upd (upd (upd H0 L (.lst (prs.map V.int))) t1 (.tup [.ref A.c_PRIMES, .int 10])) t2 (.tup (prs.map V.int)) t2 = some (.tup (prs.map V.int)) := upd_same
  have z3 := same_upd (o := .tup [.ref t2, .int 10]) h3
  refine ⟨t3, prD, rfl, dp_prs (SqT.of (z3 _ _ e2)) upd_same, prD_ok.1, prD_ok.2.1, prD_ok.2.2.1, prD_ok.2.2.2, rfl, false, nb_f rfl, ?_⟩
  have zz := (z1.trans z2).trans z3
  have eL2 := zz _ _ eL
  have D2 := D1.same zz
  generalize upd (upd (upd (upd H0 L _) t1 _) t2 _) t3 _ = H2 at *
  -- things
  refine ⟨.ref d, rfl, d, g, c, 0, rfl, D2, by decide, fun M xs H3 D3 f3 hM hxs th => ?_⟩
  have eL3 := f3 L _ nL.1 nL.2.1 eL2
  refine ⟨2, rfl, -2, 16, rfl, rfl, ⟨by decide, by decide, by decide, by decide, by decide⟩, fun R hR => ?_⟩
  have zR := same_upd (o := .lst (rgV (-2) 16)) hR
  refine ⟨M, R, _, _, rfl, rfl, zR _ _ hM, upd_same, ?_, fun Z hZ => ?_⟩
  · rw [rgV_length]
    exact Nat.le_of_lt (small1000 (by show xs.length + 18 ≤ 1000; omega))
  have zZ := zR.trans (same_upd (o := .lst (xs ++ rgV (-2) 16)) hZ)
  have eZ : upd (upd H3 R (.lst (rgV (-2) 16))) Z (.lst (xs ++ rgV (-2) 16)) Z = some (.lst (xs ++ rgV (-2) 16)) := upd_same
  have eL4 := zZ _ _ eL3
  have th4 : ∀ x ∈ xs ++ rgV (-2) 16, ∃ o, Th K (upd (upd H3 R (.lst (rgV (-2) 16))) Z (.lst (xs ++ rgV (-2) 16))) x o := by
    intro x hx
    rcases List.mem_append.mp hx with hx | hx
    · obtain ⟨o, h⟩ := th x hx
      cases o with
      | some i => exact ⟨some i, h⟩
      | none =>
        obtain ⟨ty, ⟨h1, h2⟩, h3⟩ := h
        exact ⟨none, ty, ⟨tyX_same zZ h1, h2⟩, h3⟩
    · obtain ⟨i, _, e⟩ := List.mem_map.mp hx
      exact ⟨some _, e.symm⟩
  generalize upd (upd H3 R (.lst (rgV (-2) 16))) Z (.lst (xs ++ rgV (-2) 16)) = H4 at *
  refine ⟨.ref Z, rfl, Z, rfl, ⟨_, SqL.of eZ⟩, for_list (xs := xs ++ rgV (-2) 16) (fun i σ H' => ∃ v4 v5 v6, σ = [some (.ref a), some (.ref d), some (.ref L), some (.ref Z), v4, v5, v6] ∧ H' = H4) ⟨_, _, _, rfl, rfl⟩ (fun i σ H' _ h => by obtain ⟨_, _, _, _, rfl⟩ := h; exact SqL.of eZ) ?_ ?_⟩
  · rintro i x σ H' hi ⟨v4, v5, v6, rfl, rfl⟩
    obtain ⟨o, ho⟩ := th4 x (List.mem_of_getElem? hi)
    refine ⟨x, rfl, x, o, rfl, ho, _, rfl, ?_⟩
    cases o with
    | none =>
      refine ⟨x, rfl, x, none, rfl, ho, .bl false, rfl, false, rfl, true, rfl, ?_⟩
      refine ⟨x, rfl, x, none, rfl, ho, .bl false, rfl, false, rfl, true, rfl, ?_⟩
      refine ⟨.ref L, rfl, L, rfl, ⟨_, SqL.of eL4⟩, for_list (xs := prs.map V.int) (fun i σ H5 => ∃ v6, σ = [some (.ref a), some (.ref d), some (.ref L), some (.ref Z), some x, some (.bl false), v6] ∧ H5 = H') ⟨_, rfl, rfl⟩ (fun i σ H' _ h => by obtain ⟨_, _, rfl⟩ := h; exact SqL.of eL4) ?_ ?_⟩
      · rintro j y σ H' hj ⟨v6, rfl, rfl⟩
        obtain ⟨p, rfl⟩ := int_of_map hj
        exact ⟨.int p, rfl, x, rfl, p, x, none, rfl, ho, x, rfl, x, none, rfl, ho, _, rfl, false, rfl, true, rfl, _, rfl, rfl⟩
      · rintro σ H' ⟨v6, rfl, rfl⟩
        exact ⟨_, _, _, rfl, rfl⟩
    | some i =>
      cases (show x = .int i from ho)
      refine ⟨.int i, rfl, .ref L, rfl, L, _, rfl, .inl (SqL.of eL4), rfl, flat_ints _, ?_⟩
      refine ⟨.int i, rfl, .int i, some i, rfl, rfl, .bl (isP (some i)), rfl, isP (some i), rfl, true, rfl, ?_⟩
      refine ⟨.int i, rfl, .int i, some i, rfl, rfl, .bl (isP (some i)), rfl, isP (some i), rfl, true, rfl, ?_⟩
      refine ⟨.ref L, rfl, L, rfl, ⟨_, SqL.of eL4⟩, for_list (xs := prs.map V.int) (fun _ σ H5 => ∃ v6, σ = [some (.ref a), some (.ref d), some (.ref L), some (.ref Z), some (.int i), some (.bl (isP (some i))), v6] ∧ H5 = H') ⟨_, rfl, rfl⟩ (fun _ σ H' _ h => by obtain ⟨_, _, rfl⟩ := h; exact SqL.of eL4) ?_ ?_⟩
      · rintro j y σ H' hj ⟨v6, rfl, rfl⟩
        obtain ⟨p, rfl⟩ := int_of_map hj
        refine ⟨.int p, rfl, .int i, rfl, p, .int i, some i, rfl, rfl, .int i, rfl, .int i, some i, rfl, rfl, _, rfl, .int i, rfl, 0, i, rfl, rfl, _, rfl, ite2 (fun e => ?_) (fun e => ?_)⟩
        · refine ⟨.int p, rfl, i, p, rfl, rfl, decide (i < p), ?_, true, rfl, _, rfl, rfl⟩
          show [V.bl (decide (0 ≤ i) && decide (i < p)), V.bl (decide (i < p))] = [V.bl (decide (i < p)), V.bl (decide (i < p))]
          rw [e]
          rfl
        · refine ⟨false, ?_, true, rfl, _, rfl, rfl⟩
          show [V.bl (decide (0 ≤ i) && decide (i < p)), V.bl false] = [V.bl false, V.bl false]
          rw [Bool.eq_false_iff.mpr e]
          rfl
      · rintro σ H' ⟨v6, rfl, rfl⟩
        exact ⟨_, _, _, rfl, rfl⟩
  · rintro σ H' ⟨v4, v5, v6, rfl, rfl⟩
    rfl
end
/-! what the top has written -/
theorem all_mk {l : PySem.W.OpenLaw} {w : World} {K : PySem.W.Frag} {h : Heap} {mg : Str → Option Value} {fa : Addr} (X : K.In h) (G : h.Ns mainGlobals mg) (hfa : mg "law" = some (.ref fa))
    {f_is_whole : Addr} {od_is_whole an_is_whole : Option Addr} {sl_is_whole : Array (Option Value)} {oc_is_whole kV_is_whole dc_is_whole pm_is_whole cd_is_whole ct_is_whole : Value}
    {f_is_prime : Addr} {od_is_prime an_is_prime : Option Addr} {sl_is_prime : Array (Option Value)} {oc_is_prime kV_is_prime dc_is_prime pm_is_prime cd_is_prime ct_is_prime : Value}
    {f_is_round : Addr} {od_is_round an_is_round : Option Addr} {sl_is_round : Array (Option Value)} {oc_is_round kV_is_round dc_is_round pm_is_round cd_is_round ct_is_round : Value}
    {f__law_deck : Addr} {od__law_deck an__law_deck : Option Addr} {sl__law_deck : Array (Option Value)} {oc__law_deck kV__law_deck dc__law_deck pm__law_deck cd__law_deck ct__law_deck : Value}
    {f__law_next : Addr} {od__law_next an__law_next : Option Addr} {sl__law_next : Array (Option Value)} {oc__law_next kV__law_next dc__law_next pm__law_next cd__law_next ct__law_next : Value}
    {f__law_things : Addr} {od__law_things an__law_things : Option Addr} {sl__law_things : Array (Option Value)} {oc__law_things kV__law_things dc__law_things pm__law_things cd__law_things ct__law_things : Value}
    {f__law_is_whole : Addr} {od__law_is_whole an__law_is_whole : Option Addr} {sl__law_is_whole : Array (Option Value)} {oc__law_is_whole kV__law_is_whole dc__law_is_whole pm__law_is_whole cd__law_is_whole ct__law_is_whole : Value}
    {f__law_truth : Addr} {od__law_truth an__law_truth : Option Addr} {sl__law_truth : Array (Option Value)} {oc__law_truth kV__law_truth dc__law_truth pm__law_truth cd__law_truth ct__law_truth : Value}
    {f_law : Addr} {od_law an_law : Option Addr} {sl_law : Array (Option Value)} {oc_law kV_law dc_law pm_law cd_law ct_law : Value}
    {c_PRIMES : Addr} {od_PRIMES : Option Addr} {n_PRIMES : Nat} {sl_PRIMES : Array (Option Value)} {t_PRIMES0 t_PRIMES1 t_PRIMES2 t_PRIMES3 t_PRIMES4 t_PRIMES5 : Tok}
    {t_POSTS : Tok}
    (a_is_whole : PySem.W.nsIn K mainGlobals "is_whole" = some (some (.ref f_is_whole))) (l_is_whole : K.lookup f_is_whole = some ⟨oc_is_whole, od_is_whole, .func (PySem.W.fnOf "is_whole" "is_whole" (defArgs s_is_whole) (defBody s_is_whole) (defScope s_is_whole) .none kV_is_whole dc_is_whole pm_is_whole an_is_whole cd_is_whole ct_is_whole), sl_is_whole⟩) (c_is_whole : PySem.W.codeIn K cd_is_whole "is_whole" = true) (k_is_whole : PySem.W.keepIn K (.ref f_is_whole) = true)
    (a_is_prime : PySem.W.nsIn K mainGlobals "is_prime" = some (some (.ref f_is_prime))) (l_is_prime : K.lookup f_is_prime = some ⟨oc_is_prime, od_is_prime, .func (PySem.W.fnOf "is_prime" "is_prime" (defArgs s_is_prime) (defBody s_is_prime) (defScope s_is_prime) .none kV_is_prime dc_is_prime pm_is_prime an_is_prime cd_is_prime ct_is_prime), sl_is_prime⟩) (c_is_prime : PySem.W.codeIn K cd_is_prime "is_prime" = true) (k_is_prime : PySem.W.keepIn K (.ref f_is_prime) = true)
    (a_is_round : PySem.W.nsIn K mainGlobals "is_round" = some (some (.ref f_is_round))) (l_is_round : K.lookup f_is_round = some ⟨oc_is_round, od_is_round, .func (PySem.W.fnOf "is_round" "is_round" (defArgs s_is_round) (defBody s_is_round) (defScope s_is_round) .none kV_is_round dc_is_round pm_is_round an_is_round cd_is_round ct_is_round), sl_is_round⟩) (c_is_round : PySem.W.codeIn K cd_is_round "is_round" = true) (k_is_round : PySem.W.keepIn K (.ref f_is_round) = true)
    (a__law_deck : PySem.W.nsIn K mainGlobals "_law_deck" = some (some (.ref f__law_deck))) (l__law_deck : K.lookup f__law_deck = some ⟨oc__law_deck, od__law_deck, .func (PySem.W.fnOf "_law_deck" "_law_deck" (defArgs s__law_deck) (defBody s__law_deck) (defScope s__law_deck) .none kV__law_deck dc__law_deck pm__law_deck an__law_deck cd__law_deck ct__law_deck), sl__law_deck⟩) (c__law_deck : PySem.W.codeIn K cd__law_deck "_law_deck" = true) (k__law_deck : PySem.W.keepIn K (.ref f__law_deck) = true)
    (a__law_next : PySem.W.nsIn K mainGlobals "_law_next" = some (some (.ref f__law_next))) (l__law_next : K.lookup f__law_next = some ⟨oc__law_next, od__law_next, .func (PySem.W.fnOf "_law_next" "_law_next" (defArgs s__law_next) (defBody s__law_next) (defScope s__law_next) .none kV__law_next dc__law_next pm__law_next an__law_next cd__law_next ct__law_next), sl__law_next⟩) (c__law_next : PySem.W.codeIn K cd__law_next "_law_next" = true) (k__law_next : PySem.W.keepIn K (.ref f__law_next) = true)
    (a__law_things : PySem.W.nsIn K mainGlobals "_law_things" = some (some (.ref f__law_things))) (l__law_things : K.lookup f__law_things = some ⟨oc__law_things, od__law_things, .func (PySem.W.fnOf "_law_things" "_law_things" (defArgs s__law_things) (defBody s__law_things) (defScope s__law_things) .none kV__law_things dc__law_things pm__law_things an__law_things cd__law_things ct__law_things), sl__law_things⟩) (c__law_things : PySem.W.codeIn K cd__law_things "_law_things" = true) (k__law_things : PySem.W.keepIn K (.ref f__law_things) = true)
    (a__law_is_whole : PySem.W.nsIn K mainGlobals "_law_is_whole" = some (some (.ref f__law_is_whole))) (l__law_is_whole : K.lookup f__law_is_whole = some ⟨oc__law_is_whole, od__law_is_whole, .func (PySem.W.fnOf "_law_is_whole" "_law_is_whole" (defArgs s__law_is_whole) (defBody s__law_is_whole) (defScope s__law_is_whole) .none kV__law_is_whole dc__law_is_whole pm__law_is_whole an__law_is_whole cd__law_is_whole ct__law_is_whole), sl__law_is_whole⟩) (c__law_is_whole : PySem.W.codeIn K cd__law_is_whole "_law_is_whole" = true) (k__law_is_whole : PySem.W.keepIn K (.ref f__law_is_whole) = true)
    (a__law_truth : PySem.W.nsIn K mainGlobals "_law_truth" = some (some (.ref f__law_truth))) (l__law_truth : K.lookup f__law_truth = some ⟨oc__law_truth, od__law_truth, .func (PySem.W.fnOf "_law_truth" "_law_truth" (defArgs s__law_truth) (defBody s__law_truth) (defScope s__law_truth) .none kV__law_truth dc__law_truth pm__law_truth an__law_truth cd__law_truth ct__law_truth), sl__law_truth⟩) (c__law_truth : PySem.W.codeIn K cd__law_truth "_law_truth" = true) (k__law_truth : PySem.W.keepIn K (.ref f__law_truth) = true)
    (a_law : PySem.W.nsIn K mainGlobals "law" = some (some (.ref f_law))) (l_law : K.lookup f_law = some ⟨oc_law, od_law, .func (PySem.W.fnOf "law" "law" (defArgs s_law) (defBody s_law) (defScope s_law) .none kV_law dc_law pm_law an_law cd_law ct_law), sl_law⟩) (c_law : PySem.W.codeIn K cd_law "law" = true) (k_law : PySem.W.keepIn K (.ref f_law) = true)
    (z_abs : PySem.W.nsIn K mainGlobals "abs" = some none)
    (z_bool : PySem.W.nsIn K mainGlobals "bool" = some none)
    (z_int : PySem.W.nsIn K mainGlobals "int" = some none)
    (z_isinstance : PySem.W.nsIn K mainGlobals "isinstance" = some none)
    (z_len : PySem.W.nsIn K mainGlobals "len" = some none)
    (z_list : PySem.W.nsIn K mainGlobals "list" = some none)
    (z_range : PySem.W.nsIn K mainGlobals "range" = some none)
    (z_repr : PySem.W.nsIn K mainGlobals "repr" = some none)
    (z_tuple : PySem.W.nsIn K mainGlobals "tuple" = some none)
    (e_PRIMES : PySem.W.nsIn K mainGlobals "PRIMES" = some (some (.ref c_PRIMES))) (h_PRIMES : K.lookup c_PRIMES = some ⟨.type "tuple", od_PRIMES, .seq #[.int 2 t_PRIMES0, .int 3 t_PRIMES1, .int 5 t_PRIMES2, .int 7 t_PRIMES3, .int 11 t_PRIMES4, .int 13 t_PRIMES5] n_PRIMES, sl_PRIMES⟩)
    (e_POSTS : PySem.W.nsIn K mainGlobals "POSTS" = some (some (.int 10 t_POSTS))) :
    LawOk l.prog w K mg fa := by
  have e := hfa.symm.trans (PySem.W.mg_of X G a_law)
  cases e
  have F_is_whole := fun_mk (st := s_is_whole) l_is_whole c_is_whole k_is_whole
  have b_is_whole := F_is_whole.binds (ps := ["thing"]) fun _ _ _ _ _ _ us hl => match us, hl with | [_], _ => rfl
  have F_is_prime := fun_mk (st := s_is_prime) l_is_prime c_is_prime k_is_prime
  have b_is_prime := F_is_prime.binds (ps := ["thing"]) fun _ _ _ _ _ _ us hl => match us, hl with | [_], _ => rfl
  have F_is_round := fun_mk (st := s_is_round) l_is_round c_is_round k_is_round
  have b_is_round := F_is_round.binds (ps := ["p", "thing"]) fun _ _ _ _ _ _ us hl => match us, hl with | [_, _], _ => rfl
  have F__law_deck := fun_mk (st := s__law_deck) l__law_deck c__law_deck k__law_deck
  have b__law_deck := F__law_deck.binds (ps := ["_law_script"]) fun _ _ _ _ _ _ us hl => match us, hl with | [_], _ => rfl
  have F__law_next := fun_mk (st := s__law_next) l__law_next c__law_next k__law_next
  have b__law_next := F__law_next.binds (ps := ["_law_deck_here", "_law_many"]) fun _ _ _ _ _ _ us hl => match us, hl with | [_, _], _ => rfl
  have F__law_things := fun_mk (st := s__law_things) l__law_things c__law_things k__law_things
  have b__law_things := F__law_things.binds (ps := ["_law_deck_here"]) fun _ _ _ _ _ _ us hl => match us, hl with | [_], _ => rfl
  have F__law_is_whole := fun_mk (st := s__law_is_whole) l__law_is_whole c__law_is_whole k__law_is_whole
  have b__law_is_whole := F__law_is_whole.binds (ps := ["_law_thing"]) fun _ _ _ _ _ _ us hl => match us, hl with | [_], _ => rfl
  have F__law_truth := fun_mk (st := s__law_truth) l__law_truth c__law_truth k__law_truth
  have b__law_truth := F__law_truth.binds (ps := ["_law_found", "_law_due"]) fun _ _ _ _ _ _ us hl => match us, hl with | [_, _], _ => rfl
  have F_law := fun_mk (st := s_law) l_law c_law k_law
  have b_law := F_law.binds (ps := ["_law_script"]) fun _ _ _ _ _ _ us hl => match us, hl with | [_], _ => rfl
  let A : Ad := ⟨f_is_whole, PySem.W.fnOf "is_whole" "is_whole" (defArgs s_is_whole) (defBody s_is_whole) (defScope s_is_whole) .none kV_is_whole dc_is_whole pm_is_whole an_is_whole cd_is_whole ct_is_whole, f_is_prime, PySem.W.fnOf "is_prime" "is_prime" (defArgs s_is_prime) (defBody s_is_prime) (defScope s_is_prime) .none kV_is_prime dc_is_prime pm_is_prime an_is_prime cd_is_prime ct_is_prime, f_is_round, PySem.W.fnOf "is_round" "is_round" (defArgs s_is_round) (defBody s_is_round) (defScope s_is_round) .none kV_is_round dc_is_round pm_is_round an_is_round cd_is_round ct_is_round, f__law_deck, PySem.W.fnOf "_law_deck" "_law_deck" (defArgs s__law_deck) (defBody s__law_deck) (defScope s__law_deck) .none kV__law_deck dc__law_deck pm__law_deck an__law_deck cd__law_deck ct__law_deck, f__law_next, PySem.W.fnOf "_law_next" "_law_next" (defArgs s__law_next) (defBody s__law_next) (defScope s__law_next) .none kV__law_next dc__law_next pm__law_next an__law_next cd__law_next ct__law_next, f__law_things, PySem.W.fnOf "_law_things" "_law_things" (defArgs s__law_things) (defBody s__law_things) (defScope s__law_things) .none kV__law_things dc__law_things pm__law_things an__law_things cd__law_things ct__law_things, f__law_is_whole, PySem.W.fnOf "_law_is_whole" "_law_is_whole" (defArgs s__law_is_whole) (defBody s__law_is_whole) (defScope s__law_is_whole) .none kV__law_is_whole dc__law_is_whole pm__law_is_whole an__law_is_whole cd__law_is_whole ct__law_is_whole, f__law_truth, PySem.W.fnOf "_law_truth" "_law_truth" (defArgs s__law_truth) (defBody s__law_truth) (defScope s__law_truth) .none kV__law_truth dc__law_truth pm__law_truth an__law_truth cd__law_truth ct__law_truth, fa, PySem.W.fnOf "law" "law" (defArgs s_law) (defBody s_law) (defScope s_law) .none kV_law dc_law pm_law an_law cd_law ct_law, c_PRIMES, 0⟩
  have T : Tx K mg A := ⟨⟨F_is_whole, b_is_whole, PySem.W.mg_of X G a_is_whole⟩, ⟨F_is_prime, b_is_prime, PySem.W.mg_of X G a_is_prime⟩, ⟨F_is_round, b_is_round, PySem.W.mg_of X G a_is_round⟩, ⟨F__law_deck, b__law_deck, PySem.W.mg_of X G a__law_deck⟩, ⟨F__law_next, b__law_next, PySem.W.mg_of X G a__law_next⟩, ⟨F__law_things, b__law_things, PySem.W.mg_of X G a__law_things⟩, ⟨F__law_is_whole, b__law_is_whole, PySem.W.mg_of X G a__law_is_whole⟩, ⟨F__law_truth, b__law_truth, PySem.W.mg_of X G a__law_truth⟩, ⟨F_law, b_law, PySem.W.mg_of X G a_law⟩, PySem.W.mg_none_of X G z_abs, PySem.W.mg_none_of X G z_bool, PySem.W.mg_none_of X G z_int, PySem.W.mg_none_of X G z_isinstance, PySem.W.mg_none_of X G z_len, PySem.W.mg_none_of X G z_list, PySem.W.mg_none_of X G z_range, PySem.W.mg_none_of X G z_repr, PySem.W.mg_none_of X G z_tuple, PySem.W.mg_of X G e_PRIMES, ⟨_, _, _, _, h_PRIMES, .cons ⟨_, rfl⟩ (.cons ⟨_, rfl⟩ (.cons ⟨_, rfl⟩ (.cons ⟨_, rfl⟩ (.cons ⟨_, rfl⟩ (.cons ⟨_, rfl⟩ (.nil))))))⟩, ⟨_, PySem.W.mg_of X G e_POSTS⟩⟩
  exact ok_law T
end Kp

open PySem PySem.W PyProof.Rows in
set_option maxRecDepth 100000 in
set_option maxHeartbeats 0 in
theorem PySem.Challenge.cw_fairposts_k01_primes_and_numbers_holds : PySem.Challenge.rw_fairposts_k01_primes_and_numbers.Holds := by
  w_on; o_law; k_head; (case hw => w_witness2)
  k_fill
  refine Kp.walk_g (l := PySem.Challenge.rw_fairposts_k01_primes_and_numbers) rfl rfl (fun w h Y => PySem.W.kIn_of Y) ?F
  case F =>
    intro w mg fa h KX G hmg
    refine' Kp.all_mk KX G hmg ?a_is_whole ?l_is_whole ?c_is_whole ?k_is_whole ?a_is_prime ?l_is_prime ?c_is_prime ?k_is_prime ?a_is_round ?l_is_round ?c_is_round ?k_is_round ?a__law_deck ?l__law_deck ?c__law_deck ?k__law_deck ?a__law_next ?l__law_next ?c__law_next ?k__law_next ?a__law_things ?l__law_things ?c__law_things ?k__law_things ?a__law_is_whole ?l__law_is_whole ?c__law_is_whole ?k__law_is_whole ?a__law_truth ?l__law_truth ?c__law_truth ?k__law_truth ?a_law ?l_law ?c_law ?k_law ?z_abs ?z_bool ?z_int ?z_isinstance ?z_len ?z_list ?z_range ?z_repr ?z_tuple ?e_PRIMES ?h_PRIMES ?e_POSTS
    (case a_is_whole => k_is)
    (case l_is_whole => k_is)
    (case c_is_whole => k_is)
    (case k_is_whole => k_is)
    (case a_is_prime => k_is)
    (case l_is_prime => k_is)
    (case c_is_prime => k_is)
    (case k_is_prime => k_is)
    (case a_is_round => k_is)
    (case l_is_round => k_is)
    (case c_is_round => k_is)
    (case k_is_round => k_is)
    (case a__law_deck => k_is)
    (case l__law_deck => k_is)
    (case c__law_deck => k_is)
    (case k__law_deck => k_is)
    (case a__law_next => k_is)
    (case l__law_next => k_is)
    (case c__law_next => k_is)
    (case k__law_next => k_is)
    (case a__law_things => k_is)
    (case l__law_things => k_is)
    (case c__law_things => k_is)
    (case k__law_things => k_is)
    (case a__law_is_whole => k_is)
    (case l__law_is_whole => k_is)
    (case c__law_is_whole => k_is)
    (case k__law_is_whole => k_is)
    (case a__law_truth => k_is)
    (case l__law_truth => k_is)
    (case c__law_truth => k_is)
    (case k__law_truth => k_is)
    (case a_law => k_is)
    (case l_law => k_is)
    (case c_law => k_is)
    (case k_law => k_is)
    (case z_abs => k_is)
    (case z_bool => k_is)
    (case z_int => k_is)
    (case z_isinstance => k_is)
    (case z_len => k_is)
    (case z_list => k_is)
    (case z_range => k_is)
    (case z_repr => k_is)
    (case z_tuple => k_is)
    (case e_PRIMES => k_is)
    (case h_PRIMES => k_is)
    (case e_POSTS => k_is)
#print axioms PySem.Challenge.cw_fairposts_k01_primes_and_numbers_holds

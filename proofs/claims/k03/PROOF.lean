import PyProof.Rows.All
import Wide.All
import OpenK.AllK
import Wide.FinOn
import HandS.ForMost
import HandS.Wide
import HandS.IsInst
import HandS.Conv
import HandS.TupAny
import HandS.TupLe
import PySem.Challenge.RW_fairposts_k03_rows_or_not
set_option Elab.async false
set_option maxRecDepth 100000
namespace Kp
open PySem L2
def top (i : Nat) : Stmt := PySem.Challenge.pw_fairposts_k03_rows_or_not.main.body.getD i (.Pass ⟨0, 0, 0, 0⟩)
abbrev s_is_whole : Stmt := top 1
def N_is_whole : List Str := ["thing"]
theorem sc_is_whole : FnScope ["thing"] ["thing"] (defScope s_is_whole) := ⟨rfl, rfl, rfl, by decide +kernel, rfl, by decide +kernel, by decide +kernel⟩
abbrev s_is_round : Stmt := top 2
def N_is_round : List Str := ["p", "thing"]
theorem sc_is_round : FnScope ["p", "thing"] ["p", "thing"] (defScope s_is_round) := ⟨rfl, rfl, rfl, by decide +kernel, rfl, by decide +kernel, by decide +kernel⟩
abbrev s_is_pair : Stmt := top 4
def N_is_pair : List Str := ["p", "thing"]
theorem sc_is_pair : FnScope ["p", "thing"] ["p", "thing"] (defScope s_is_pair) := ⟨rfl, rfl, rfl, by decide +kernel, rfl, by decide +kernel, by decide +kernel⟩
abbrev s_is_row : Stmt := top 5
def N_is_row : List Str := ["p", "posts", "thing", "pair"]
theorem sc_is_row : FnScope ["p", "posts", "thing", "pair"] ["p", "posts", "thing"] (defScope s_is_row) := ⟨rfl, rfl, rfl, by decide +kernel, rfl, by decide +kernel, by decide +kernel⟩
abbrev s__law_deck : Stmt := top 7
def N__law_deck : List Str := ["_law_script", "_law_cells", "_law_cell"]
theorem sc__law_deck : FnScope ["_law_script", "_law_cells", "_law_cell"] ["_law_script"] (defScope s__law_deck) := ⟨rfl, rfl, rfl, by decide +kernel, rfl, by decide +kernel, by decide +kernel⟩
abbrev s__law_next : Stmt := top 8
def N__law_next : List Str := ["_law_deck_here", "_law_many", "_law_cell", "_law_mixed", "_law_rest"]
theorem sc__law_next : FnScope ["_law_deck_here", "_law_many", "_law_cell", "_law_mixed", "_law_rest"] ["_law_deck_here", "_law_many"] (defScope s__law_next) := ⟨rfl, rfl, rfl, by decide +kernel, rfl, by decide +kernel, by decide +kernel⟩
abbrev s__law_prime : Stmt := top 9
def N__law_prime : List Str := ["_law_deck_here"]
theorem sc__law_prime : FnScope ["_law_deck_here"] ["_law_deck_here"] (defScope s__law_prime) := ⟨rfl, rfl, rfl, by decide +kernel, rfl, by decide +kernel, by decide +kernel⟩
abbrev s__law_numbers : Stmt := top 10
def N__law_numbers : List Str := ["_law_deck_here", "_law_p", "_law_many", "_law_k"]
theorem sc__law_numbers : FnScope ["_law_deck_here", "_law_p", "_law_many", "_law_k"] ["_law_deck_here", "_law_p", "_law_many"] (defScope s__law_numbers) := ⟨rfl, rfl, rfl, by decide +kernel, rfl, by decide +kernel, by decide +kernel⟩
abbrev s__law_row : Stmt := top 11
def N__law_row : List Str := ["_law_deck_here", "_law_p", "_law_posts", "_law_k"]
theorem sc__law_row : FnScope ["_law_deck_here", "_law_p", "_law_posts", "_law_k"] ["_law_deck_here", "_law_p", "_law_posts"] (defScope s__law_row) := ⟨rfl, rfl, rfl, by decide +kernel, rfl, by decide +kernel, by decide +kernel⟩
abbrev s__law_is_number : Stmt := top 12
def N__law_is_number : List Str := ["_law_p", "_law_thing"]
theorem sc__law_is_number : FnScope ["_law_p", "_law_thing"] ["_law_p", "_law_thing"] (defScope s__law_is_number) := ⟨rfl, rfl, rfl, by decide +kernel, rfl, by decide +kernel, by decide +kernel⟩
abbrev s__law_is_row : Stmt := top 13
def N__law_is_row : List Str := ["_law_p", "_law_posts", "_law_thing", "_law_pair"]
theorem sc__law_is_row : FnScope ["_law_p", "_law_posts", "_law_thing", "_law_pair"] ["_law_p", "_law_posts", "_law_thing"] (defScope s__law_is_row) := ⟨rfl, rfl, rfl, by decide +kernel, rfl, by decide +kernel, by decide +kernel⟩
abbrev s__law_odd : Stmt := top 14
def N__law_odd : List Str := ["_law_deck_here", "_law_p", "_law_some"]
theorem sc__law_odd : FnScope ["_law_deck_here", "_law_p", "_law_some"] ["_law_deck_here", "_law_p"] (defScope s__law_odd) := ⟨rfl, rfl, rfl, by decide +kernel, rfl, by decide +kernel, by decide +kernel⟩
abbrev s__law_bent : Stmt := top 15
def N__law_bent : List Str := ["_law_deck_here", "_law_p", "_law_row_here", "_law_kind", "_law_at", "_law_some", "_law_x", "_law_y"]
theorem sc__law_bent : FnScope ["_law_deck_here", "_law_p", "_law_row_here", "_law_kind", "_law_at", "_law_some", "_law_x", "_law_y"] ["_law_deck_here", "_law_p", "_law_row_here"] (defScope s__law_bent) := ⟨rfl, rfl, rfl, by decide +kernel, rfl, by decide +kernel, by decide +kernel⟩
abbrev s_law : Stmt := top 16
def N_law : List Str := ["_law_script", "_law_deck_here", "_law_turn", "_law_p", "_law_posts", "_law_row_here", "_law_bent_here", "_law_again", "_law_thing", "_law_held", "_law_many", "_law_prime_here", "_law_found"]
theorem sc_law : FnScope ["_law_script", "_law_deck_here", "_law_turn", "_law_p", "_law_posts", "_law_row_here", "_law_bent_here", "_law_again", "_law_thing", "_law_held", "_law_many", "_law_prime_here", "_law_found"] ["_law_script"] (defScope s_law) := ⟨rfl, rfl, rfl, by decide +kernel, rfl, by decide +kernel, by decide +kernel⟩
structure Df (K : PySem.W.Frag) (mg : Str → Option Value) (x : Str) (st : Stmt) (ps : List Str) (f : Addr) (fd : FuncData) : Prop where
  F : Fun K x x st f fd
  b : Binds K fd ps []
  g : mg x = some (.ref f)
structure Ad where
  f_is_whole : Addr
  d_is_whole : FuncData
  f_is_round : Addr
  d_is_round : FuncData
  f_is_pair : Addr
  d_is_pair : FuncData
  f_is_row : Addr
  d_is_row : FuncData
  f__law_deck : Addr
  d__law_deck : FuncData
  f__law_next : Addr
  d__law_next : FuncData
  f__law_prime : Addr
  d__law_prime : FuncData
  f__law_numbers : Addr
  d__law_numbers : FuncData
  f__law_row : Addr
  d__law_row : FuncData
  f__law_is_number : Addr
  d__law_is_number : FuncData
  f__law_is_row : Addr
  d__law_is_row : FuncData
  f__law_odd : Addr
  d__law_odd : FuncData
  f__law_bent : Addr
  d__law_bent : FuncData
  f_law : Addr
  d_law : FuncData
structure Tx (K : PySem.W.Frag) (mg : Str → Option Value) (A : Ad) : Prop where
  d_is_whole : Df K mg "is_whole" s_is_whole ["thing"] A.f_is_whole A.d_is_whole
  d_is_round : Df K mg "is_round" s_is_round ["p", "thing"] A.f_is_round A.d_is_round
  d_is_pair : Df K mg "is_pair" s_is_pair ["p", "thing"] A.f_is_pair A.d_is_pair
  d_is_row : Df K mg "is_row" s_is_row ["p", "posts", "thing"] A.f_is_row A.d_is_row
  d__law_deck : Df K mg "_law_deck" s__law_deck ["_law_script"] A.f__law_deck A.d__law_deck
  d__law_next : Df K mg "_law_next" s__law_next ["_law_deck_here", "_law_many"] A.f__law_next A.d__law_next
  d__law_prime : Df K mg "_law_prime" s__law_prime ["_law_deck_here"] A.f__law_prime A.d__law_prime
  d__law_numbers : Df K mg "_law_numbers" s__law_numbers ["_law_deck_here", "_law_p", "_law_many"] A.f__law_numbers A.d__law_numbers
  d__law_row : Df K mg "_law_row" s__law_row ["_law_deck_here", "_law_p", "_law_posts"] A.f__law_row A.d__law_row
  d__law_is_number : Df K mg "_law_is_number" s__law_is_number ["_law_p", "_law_thing"] A.f__law_is_number A.d__law_is_number
  d__law_is_row : Df K mg "_law_is_row" s__law_is_row ["_law_p", "_law_posts", "_law_thing"] A.f__law_is_row A.d__law_is_row
  d__law_odd : Df K mg "_law_odd" s__law_odd ["_law_deck_here", "_law_p"] A.f__law_odd A.d__law_odd
  d__law_bent : Df K mg "_law_bent" s__law_bent ["_law_deck_here", "_law_p", "_law_row_here"] A.f__law_bent A.d__law_bent
  d_law : Df K mg "law" s_law ["_law_script"] A.f_law A.d_law
  b_abs : mg "abs" = none
  b_all : mg "all" = none
  b_bool : mg "bool" = none
  b_int : mg "int" = none
  b_isinstance : mg "isinstance" = none
  b_len : mg "len" = none
  b_list : mg "list" = none
  b_max : mg "max" = none
  b_min : mg "min" = none
  b_range : mg "range" = none
  b_repr : mg "repr" = none
  b_tuple : mg "tuple" = none
/-! ### heaps -/
theorem same_upd {H : Hp} {p : Addr} {o : HO} (h : H p = none) : Same H (upd H p o) := fun b x e => by
  rw [upd_ne (ne_of_none e h)]
  exact e
/-- all but the deck's two lists that change stays -/
def Fr (d g : Addr) (H H' : Hp) : Prop := ∀ a o, a ≠ d → a ≠ g → H a = some o → H' a = some o
theorem Fr.refl (d g : Addr) (H : Hp) : Fr d g H H := fun _ _ _ _ h => h
theorem Fr.trans {d g : Addr} {H H1 H2 : Hp} (x : Fr d g H H1) (y : Fr d g H1 H2) : Fr d g H H2 := fun a o hd hg h => y a o hd hg (x a o hd hg h)
theorem Fr.of_same {d g : Addr} {H H1 : Hp} (x : Same H H1) : Fr d g H H1 := fun a o _ _ h => x a o h
theorem Fr.new {d g : Addr} {H : Hp} {p : Addr} {o : HO} (h : H p = none) : Fr d g H (upd H p o) := .of_same (same_upd h)
theorem Fr.atd {d g : Addr} {H : Hp} {o : HO} : Fr d g H (upd H d o) := fun a x hd _ h => by
  rw [upd_ne hd]
  exact h
theorem Fr.atg {d g : Addr} {H : Hp} {o : HO} : Fr d g H (upd H g o) := fun a x _ hg h => by
  rw [upd_ne hg]
  exact h
/-- the deck: a list of great cells, of cells, and a count that is at most k -/
structure Dk (d g c : Addr) (k : Int) (H : Hp) : Prop where
  ex : ∃ (gs cs : List Int) (n : Int), H d = some (.lst [.ref g, .ref c, .int n]) ∧ H g = some (.lst (gs.map V.int)) ∧ H c = some (.lst (cs.map V.int)) ∧ 0 < cs.length ∧ cs.length ≤ 100 ∧ 0 ≤ n ∧ n ≤ k
  dg : d ≠ g
  dc : d ≠ c
  gc : g ≠ c
theorem Dk.mono {d g c : Addr} {k j : Int} {H : Hp} (D : Dk d g c k H) (h : k ≤ j) : Dk d g c j H := by
  obtain ⟨gs, cs, n, h1, h2, h3, h4, h5, h6, h7⟩ := D.ex
  exact ⟨⟨gs, cs, n, h1, h2, h3, h4, h5, h6, by omega⟩, D.dg, D.dc, D.gc⟩
theorem Dk.same {d g c : Addr} {k : Int} {H H' : Hp} (D : Dk d g c k H) (s : Same H H') : Dk d g c k H' := by
  obtain ⟨gs, cs, n, h1, h2, h3, h4, h5, h6, h7⟩ := D.ex
  exact ⟨⟨gs, cs, n, s _ _ h1, s _ _ h2, s _ _ h3, h4, h5, h6, h7⟩, D.dg, D.dc, D.gc⟩
theorem Dk.hd {d g c : Addr} {k : Int} {H : Hp} (D : Dk d g c k H) : ∃ o, H d = some o := by
  obtain ⟨gs, cs, n, h1, _⟩ := D.ex
  exact ⟨_, h1⟩
theorem Dk.nd {d g c p : Addr} {k : Int} {H : Hp} (D : Dk d g c k H) (h : H p = none) : p ≠ d ∧ p ≠ g ∧ p ≠ c := by
  obtain ⟨gs, cs, n, h1, h2, h3, _⟩ := D.ex
  exact ⟨(ne_of_none h1 h).symm, (ne_of_none h2 h).symm, (ne_of_none h3 h).symm⟩
theorem neqv_nil : ∀ gs : List Int, PyData.eqv (.list (gs.map PyData.int)) (.list []) = gs.isEmpty
  | [] => rfl
  | _ :: _ => rfl
theorem dp_ints {K : PySem.W.Frag} {H : Hp} : ∀ gs : List Int, DpAll K H (gs.map V.int) (gs.map PyData.int)
  | [] => .nil
  | i :: r => .cons (.int i) (dp_ints r)
theorem lay_ints : ∀ gs : List Int, PyData.canLayAll0 (gs.map PyData.int) = true
  | [] => by simp [PyData.canLayAll0]
  | z :: zs => by simp [PyData.canLayAll0, PyData.canLay0, lay_ints zs]
theorem dep_ints : ∀ gs : List Int, PyData.depthAll (gs.map PyData.int) = 0
  | [] => by simp [PyData.depthAll]
  | z :: zs => by simp [PyData.depthAll, PyData.depth, dep_ints zs]
theorem sh_ints (gs : List Int) : SeqAt.shaped (.list (gs.map PyData.int)) = true := by
  have h1 := dep_ints gs
  have h2 : PyData.depth (.list (gs.map PyData.int)) ≤ 64 := by
    simp only [PyData.depth]
    omega
  show (PyData.canLay0 (.list (gs.map PyData.int)) && decide (PyData.depth (.list (gs.map PyData.int)) ≤ 64)) = true
  rw [Bool.and_eq_true]
  exact ⟨by simp only [PyData.canLay0]; exact lay_ints gs, decide_eq_true h2⟩
theorem atI_zero {α : Type} {x : α} {xs : List α} : atI (x :: xs) 0 = some x := atI_nat (j := 0) rfl
theorem ints_at {cs : List Int} {i : Int} (h0 : 0 ≤ i) (h1 : i < cs.length) : ∃ v : Int, atI (cs.map V.int) i = some (V.int v) := by
  obtain ⟨j, rfl⟩ := Int.eq_ofNat_of_zero_le h0
  have hj : j < cs.length := by omega
  refine ⟨cs[j], ?_⟩
  apply atI_nat
  rw [List.getElem?_map, List.getElem?_eq_getElem hj]
  rfl
theorem int_of_map {cs : List Int} {i : Nat} {y : V} (h : (cs.map V.int)[i]? = some y) : ∃ u, y = V.int u := by
  rw [List.getElem?_map] at h
  cases e : cs[i]? with
  | none =>
    rw [e] at h
    cases h
  | some u =>
    rw [e] at h
    exact ⟨u, (Option.some.inj h).symm⟩
theorem ixN_zero {n : Nat} (h : 0 < n) : ixN n 0 = some 0 := by
  unfold ixN
  rw [if_pos (Int.le_refl 0), if_pos (by omega)]
  rfl
theorem ixN_seq0 {n : Nat} (h : 0 < n) : seqIndex? 0 n = some 0 := (ixN_seq (ixN_zero h)).1
theorem mod_in {a m : Int} (h0 : 0 < m) (h1 : m ≤ 2 ^ 64) : -(2 ^ 64) < a % m ∧ a % m < 2 ^ 64 := by
  have x := Int.emod_nonneg a (b := m) (by omega)
  have y := Int.emod_lt_of_pos a h0
  exact ⟨by omega, by omega⟩
theorem bl_t {c : Prop} [Decidable c] (h : c) : V.bl (decide c) = V.bl true := by rw [decide_eq_true h]
theorem bl_f {c : Prop} [Decidable c] (h : ¬ c) : V.bl (decide c) = V.bl false := by rw [decide_eq_false h]
theorem nb_f {c : Prop} [Decidable c] (h : c) : V.bl (!decide c) = V.bl false := by rw [decide_eq_true h]; rfl
theorem nb_t {c : Prop} [Decidable c] (h : ¬ c) : V.bl (!decide c) = V.bl true := by rw [decide_eq_false h]; rfl
/-! ### isinstance -/
def isB (T U : String) : Bool := (kitB T U).getD false
/-- the built-in type of a value -/
def TyB1 (K : PySem.W.Frag) (H : Hp) (x : V) (T : String) : Prop := TyX K H x (.type T) ∧ (T = "int" ∨ T = "bool" ∨ T = "NoneType" ∨ T = "str" ∨ T = "list" ∨ T = "tuple" ∨ T = "dict")
theorem isi_of {K : PySem.W.Frag} {T : String} (U : String) (hT : T = "int" ∨ T = "bool" ∨ T = "NoneType" ∨ T = "str" ∨ T = "list" ∨ T = "tuple" ∨ T = "dict") (hU : U = "int" ∨ U = "bool" ∨ U = "tuple" ∨ U = "list" ∨ U = "str") : PySem.W.kitOne K (.type T) (.type U) = some (isB T U) := by
  rcases hT with rfl | rfl | rfl | rfl | rfl | rfl | rfl <;> rcases hU with rfl | rfl | rfl | rfl | rfl <;> exact kit_ty (by decide +kernel)
theorem isB_ii : isB "int" "int" = true := by decide +kernel
theorem isB_ib : isB "int" "bool" = false := by decide +kernel
theorem isB_bi : isB "bool" "int" = true := by decide +kernel
theorem isB_bb : isB "bool" "bool" = true := by decide +kernel
theorem isB_tt : isB "tuple" "tuple" = true := by decide +kernel
/-! ### a call where it is known that no repr is under way (guards), and the law's own end over it -/
open PySem.Spec PyProof.Rows in
theorem at_call {P : Program} {w : World} {K : PySem.W.Frag} {mg : Str → Option Value} {base : Heap} {A : Around} {outer : List Env}
    {x qual : Str} {st : Stmt} {f : Addr} {fd : FuncData} {N ps : List Str} {k : Nat} (F : Fun K x qual st f fd)
    (S : FnScope N ps (defScope st)) {s : Shared} {H : Hp} {args : Args} {us : List Value} {vs : List V} {Q : VK} {E : XK}
    (hl : vs.length = ps.length) (room : Room (k + 1) A) (e0 : Env0 P w K mg base A outer s H)
    (hb : BindsTo s fd args (ps.zip us)) (rv : Vals vs us)
    (body : ∀ cdv : Value, Room k (A.deeper (envOfC qual (defScope st) s.heap.objs.size f cdv)) →
      ∃ t, PSs (cxOf CX0 P w K mg base N qual (defScope st) f cdv A outer s H E).nox (defBody st) t ∧
        t { nx := fun _ H' => Q .non H', rt := Q } (start N vs) H) :
    codeAny (model P w) A (.call (.ref f) args) (CR CX0 outer P w H s Q E) s := by
  obtain ⟨oc, od, kV, doc, pm, an, cdv, ct, osl, rfl, look, code⟩ := F.ex
  have inn : ∀ {b o}, base.get? b = some o → s.heap.get? b = some o := fun z => (e0.bs _ _ z).1
  have kin : K.In s.heap := e0.mod.kin.keeps fun _ _ z => inn z
  have nol : s.heap.NoLimit := e0.mod.nolimit.keeps fun _ _ z => inn z
  refine codeAny_call_function room.depth (kin _ _ look) rfl S.co S.gen rfl (PySem.W.codeRec_of kin code) (hb _ _ _ _ ?_)
  refine wpAny_newFunctionEnv_cells S.kind (fun y hy => ?_) fun env he s1 inc => ?_
  · obtain ⟨n, v⟩ := y
    cases S.par n (List.of_mem_zip hy).1 with
    | inl z => exact Or.inl z
    | inr z => exact Or.inr ⟨z, PySem.W.cellsFrom_some _ _ _ (Or.inl z)⟩
  · subst he
    refine ⟨nol.keeps inc.toInCall.keep, codeAny_func ?_⟩
    obtain ⟨t, ht, hq⟩ := body cdv (room.deeper _)
    have I0 := inv_start (CX := CX0) (E := E) S room.hd e0 hl rv inc
    refine wpAny_mono (ht.nox.run [] s1 (start N vs) H _ I0 hq) (fun fl s' hs => ?_) (fun _ _ z => z)
    match fl, hs with
    | .ret _, ⟨v, _, H', J, r1, q1⟩ => exact ⟨v, H', J.os, J.bare, J.base, J.hok, r1, q1⟩
    | .next, ⟨_, H', J, q1⟩ => exact ⟨V.non, H', J.os, J.bare, J.base, J.hok, rfl, q1⟩
    | .brk, ⟨_, _, _, z⟩ => exact z.elim
    | .cont, ⟨_, _, _, z⟩ => exact z.elim
open PySem.Spec PyProof.Rows in
theorem core_end {P : Program} {w : World} {K : PySem.W.Frag} {mg mb : Str → Option Value} {fa a : Addr} {t : Shared} {vs : List Value} {H : Hp}
    (kin : K.In t.heap) (hm : t.heap.Ns mainGlobals mg) (hb : t.heap.Ns builtinsNs mb) (boot : ∀ x : Str, x ≠ "__name__" → mb x = bootBuiltins x)
    (nol : t.heap.NoLimit) (hg : t.gens = #[]) (ha : t.heap.get? a = some { cls := .type "list", data := .seq vs.toArray })
    (only : Only H) (hok : HOk P w H t.heap) (atA : ∀ b o, H b = some o → b = a) (notK : ∀ o, H a = some o → K.lookup a = none)
    (R : ∀ base : Heap, (∀ b o, t.heap.get? b = some o → H b = none → base.get? b = some o) → Env0 P w K mg base callerA [] t H →
      codeAny (model P w) callerA (.call (.ref fa) ⟨[.ref a], []⟩) (CR CX0 [] P w H t (fun v _ => v = .bl true) E0) t) :
    codeAny (model P w) callerA (.call (.ref fa) ⟨[.ref a], []⟩)
      (fun r u => r = .ok (.ret (.bool true)) ∧ PySem.OldK t.heap u.heap ∧ u.os = t.os ∧ AllBare u.gens) t := by
  have hid : ∀ {b o}, t.heap.get? b = some o → H b = none → (hidT t.heap H).get? b = some o := fun z n => hidT_get z n
  have names : ∀ {b : Addr} {m : Str → Option Value}, t.heap.Ns b m → (hidT t.heap H).Ns b m := by
    rintro b m ⟨o, es, ep, z, d, r⟩
    refine ⟨o, es, ep, hid z ?_, d, r⟩
    cases q : H b with
    | none => rfl
    | some u =>
      cases atA b u q
      rw [ha] at z
      cases z
      cases d
  have kinB : K.In (hidT t.heap H) := by
    intro b o z
    refine hid (kin b o z) ?_
    cases q : H b with
    | none => rfl
    | some u =>
      cases atA b u q
      rw [notK u q] at z
      cases z
  obtain ⟨mc, n1, n2⟩ := nol
  have md : Mod K mg (hidT t.heap H) := ⟨kinB, names hm, ⟨mb, names hb, boot⟩, ⟨mc, names n1, n2⟩⟩
  have e0 : Env0 P w K mg (hidT t.heap H) callerA [] t H := by
    refine ⟨rfl, md, fun b o z => of_hidT z, Nat.le_of_eq (hidT_size _ _), trivial, fun b z => ?_, hok, .of_eq hg⟩
    exact (List.not_mem_nil (show b ∈ ([] : List Addr) from z)).elim
  refine codeAny_mono (R _ (fun b o z n => hid z n) e0) fun r u h => ?_
  match r, h with
  | .ok (.ret y), ⟨v, H', hos, bare, un, hok', rel, e⟩ =>
    have e2 : v = V.bl true := e
    subst e2
    cases (show y = Value.bool true from rel)
    refine ⟨rfl, OldK.of_keep fun b o z => ?_, hos, bare⟩
    rcases only b with n | ⟨ob, xs, n⟩
    · exact un.keep b o z n (fun y => (List.not_mem_nil (show b ∈ ([] : List Addr) from y)).elim) (by simp)
    · obtain ⟨g1, _⟩ := hok b _ n
      obtain ⟨g2, _⟩ := hok' b _ (un.frzs b ob _ n)
      rw [g1] at z
      cases z
      exact g2
  | .ok .next, h => exact False.elim h
  | .ok .brk, h => exact False.elim h
  | .ok .cont, h => exact False.elim h
  | .error _, h => exact False.elim h
open PySem.Spec PyProof.Rows in
/-- the law's call, over every script of at most 63 numbers, gives True -/
def LawOk (P : Program) (w : World) (K : PySem.W.Frag) (mg : Str → Option Value) (fa : Addr) : Prop :=
  ∀ (base : Heap) (t : Shared) (H : Hp) (a : Addr) (ns : List Int), ns.length ≤ 63 → (∃ o, base.get? sysModules = some o) → Env0 P w K mg base callerA [] t H → SqL K H a (ns.map V.int) →
    codeAny (model P w) callerA (.call (.ref fa) ⟨[.ref a], []⟩) (CR CX0 [] P w H t (fun v _ => v = .bl true) E0) t
open PySem.Spec PyProof.Rows in
theorem walk_g {l : PySem.W.OpenLaw} {q : Program} {loose : List Str} {XP : (Str → Option Value) → Heap → Prop} {YP : World → Heap → Prop} {d : DefRec} {K : Params → PySem.W.Frag}
    (hn : l.most = some 63) (hdf : d.params.defaults = []) (hi : importsNone q = true) (hY : ∀ (w : World) (h : Heap), YP w h → (K w.params).In h)
    (F : ∀ (w : World) (mg : Str → Option Value) (fa : Addr) (h : Heap), (K w.params).In h → h.Ns mainGlobals mg → mg d.name = some (.ref fa) → LawOk l.prog w (K w.params) mg fa) :
    PySem.W.WalkO q loose XP YP l.row.toRowW d [] (fun f vs => PySem.call f vs) := by
  refine Att.attach_call hn hdf fun w s₀ t mg mb fa o pm cd doc a vs ns G Y ho hd hcd hmg hobj hints hlen hg => ?_
  have kin := hY w _ Y
  have L := F w mg fa _ kin G.T.g hmg
  have rv := vals_ints hints
  have small : ns.length ≤ sizeLine := Nat.le_trans hlen (by decide)
  obtain ⟨mm, ⟨os, es, ep, hos, hod, _⟩, _⟩ := (G.T.seer hi).mods
  cases hk : (K w.params).lookup a with
  | some u =>
    have z := kin a u hk
    rw [hobj] at z
    cases z
    refine core_end (H := fun _ => none) kin G.T.g G.T.b G.T.builtins G.T.nolimit hg hobj (fun _ => .inl rfl) (fun b u z => nomatch z) (fun b o z => nomatch z) (fun o z => nomatch z) fun base up e0 => ?_
    exact L base t _ a ns hlen ⟨_, up _ _ hos rfl⟩ e0 (.inr ⟨_, vs.toArray, _, hk, rfl, rfl, rfl, by rw [List.size_toArray, hints.length]; exact small, by simpa using rv⟩)
  | none =>
    refine core_end (H := fun b => if b = a then some (.frz { cls := .type "list", data := .seq vs.toArray } (.lst (ns.map V.int))) else none) kin G.T.g G.T.b G.T.builtins G.T.nolimit hg hobj (fun b => ?_) (fun b u z => ?_) (fun b o z => ?_) (fun _ _ => hk) fun base up e0 => ?_
    · by_cases e : b = a
      · exact .inr ⟨_, _, if_pos e⟩
      · exact .inl (if_neg e)
    · by_cases e : b = a
      · cases (if_pos e).symm.trans z
        subst e
        exact ⟨hobj, by rw [List.length_map]; exact small, vs, _, rv, hobj⟩
      · cases (if_neg e).symm.trans z
    · by_cases e : b = a
      · exact e
      · cases (if_neg e).symm.trans z
    · have ne : sysModules ≠ a := fun z => by
        rw [z, hobj] at hos
        cases hos
        cases hod
      have h1 := L base t _ a ns hlen ⟨_, up _ _ hos (if_neg ne)⟩ e0
      exact h1 (.inl (.inr ⟨_, if_pos rfl⟩))
open PySem.Spec PyProof.Rows in
theorem guards_caller : callerA.guards = some [] := rfl
section
variable {X : Cx}
open PySem.Spec PyProof.Rows in
/-- repr(x), x of lists, tuples, ints, texts, truths, None -/
theorem call_reprD (hg : X.A.guards = some []) (hu : X.A.units + 80 < cLine) : CallR X (.builtin "repr") (fun xs H Q => ∃ (a : Addr) (d : PyData), xs = [.ref a] ∧ Dp X.K H (.ref a) d ∧ d.showable = true ∧ d.hasDict = false ∧ d.depth ≤ 64 ∧ d.shown.length ≤ sizeLine ∧ Q (.str d.shown) H) := by
  intro pins s σ H xs us Q I r h
  obtain ⟨a, d, rfl, hd, hs, hn, hz, hl, q⟩ := h
  obtain ⟨u, rfl, ru⟩ := vals1 r
  obtain ⟨as, rd⟩ := Dp.reads I d _ u hd ru
  obtain rfl : u = Value.ref a := ru
  refine repr_of_reads' rd hs (PyData.noDict_hsm hn) hg (by omega) (fun _ _ z => z) (fun h' u tk hk => ?_) hl
  exact ⟨.str d.shown, H, I.kept hk, ⟨_, rfl⟩, q⟩
end
theorem ru80 {k : Nat} {A : Around} (hr : Room k A) : A.units + 80 < cLine := by
  have := hr.un
  omega
open PySem.Spec PyProof.Rows in
theorem law_at {P : Program} {w : World} {K : PySem.W.Frag} {mg : Str → Option Value} {st : Stmt} {f : Addr} {fd : FuncData} {N : List Str} {p : Str} {k : Nat}
    (D : Df K mg "law" st [p] f fd) (S : FnScope N [p] (defScope st)) (room : Room (k + 1) callerA)
    (body : ∀ (base : Heap) (t : Shared) (H : Hp) (a : Addr) (ns : List Int) (cdv : Value), ns.length ≤ 63 → (∃ o, base.get? sysModules = some o) → SqL K H a (ns.map V.int) →
      Room k (callerA.deeper (envOfC "law" (defScope st) t.heap.objs.size f cdv)) →
      ∃ tm, PSs (cxOf CX0 P w K mg base N "law" (defScope st) f cdv callerA [] t H E0).nox (defBody st) tm ∧
        tm { nx := fun _ _ => V.non = .bl true, rt := fun v _ => v = .bl true } (start N [.ref a]) H) : LawOk P w K mg f := by
  intro base t H a ns hl hm e0 hS
  have kin : K.In t.heap := e0.mod.kin.keeps fun b o z => (e0.bs b o z).1
  exact at_call (vs := [.ref a]) D.F S rfl room e0 (D.b t [.ref a] kin rfl) (.cons rfl .nil) fun cdv hr => body base t H a ns cdv hl hm hS hr
/-! ### things of any depth: None, truths, ints, texts, lists, tuples, {} -/
mutual
inductive Dq (H : Hp) : V → PyData → Prop
  | non : Dq H .non .none
  | bl (b : Bool) : Dq H (.bl b) (.bool b)
  | int (i : Int) : Dq H (.int i) (.int i)
  | str (x : Str) : Dq H (.str x) (.str x)
  | lst {a : Addr} {xs : List V} {ds : List PyData} : H a = some (.lst xs) → DqAll H xs ds → Dq H (.ref a) (.list ds)
  | tup {a : Addr} {xs : List V} {ds : List PyData} : H a = some (.tup xs) → DqAll H xs ds → Dq H (.ref a) (.tuple ds)
  | dic {a : Addr} : H a = some (.dK []) → Dq H (.ref a) (.dict [])
inductive DqAll (H : Hp) : List V → List PyData → Prop
  | nil : DqAll H [] []
  | cons {v : V} {vs : List V} {d : PyData} {ds : List PyData} : Dq H v d → DqAll H vs ds → DqAll H (v :: vs) (d :: ds)
end
theorem DqAll.length {H : Hp} : ∀ {vs : List V} {ds : List PyData}, DqAll H vs ds → vs.length = ds.length
  | [], _, h => by
    cases h
    rfl
  | _ :: vs, _, h => by
    cases h with
    | cons _ h2 => exact congrArg (· + 1) (DqAll.length h2)
theorem DqAll.append {H : Hp} : ∀ {vs ws : List V} {ds es : List PyData}, DqAll H vs ds → DqAll H ws es → DqAll H (vs ++ ws) (ds ++ es)
  | [], _, _, _, h, k => by
    cases h
    exact k
  | _ :: _, _, _, _, h, k => by
    cases h with
    | cons h1 h2 => exact .cons h1 (DqAll.append h2 k)
theorem DqAll.get {H : Hp} : ∀ {vs : List V} {ds : List PyData} {i : Nat} {v : V}, DqAll H vs ds → vs[i]? = some v → ∃ d, ds[i]? = some d ∧ Dq H v d
  | [], _, _, _, _, e => by simp at e
  | x :: vs, _, 0, v, h, e => by
    cases h with
    | cons h1 h2 =>
      cases (Option.some.inj e)
      exact ⟨_, rfl, h1⟩
  | x :: vs, _, i + 1, v, h, e => by
    cases h with
    | cons h1 h2 => exact DqAll.get (i := i) h2 (show vs[i]? = some v from e)
theorem DqAll.take {H : Hp} : ∀ {vs : List V} {ds : List PyData} (n : Nat), DqAll H vs ds → DqAll H (vs.take n) (ds.take n)
  | _, _, 0, _ => by
    rw [List.take_zero, List.take_zero]
    exact .nil
  | [], _, n + 1, h => by
    cases h
    exact .nil
  | _ :: _, _, n + 1, h => by
    cases h with
    | cons h1 h2 => exact .cons h1 (DqAll.take n h2)
theorem DqAll.drop {H : Hp} : ∀ {vs : List V} {ds : List PyData} (n : Nat), DqAll H vs ds → DqAll H (vs.drop n) (ds.drop n)
  | _, _, 0, h => h
  | [], _, n + 1, h => by
    cases h
    exact .nil
  | _ :: _, _, n + 1, h => by
    cases h with
    | cons h1 h2 => exact DqAll.drop n h2
theorem DqAll.rev {H : Hp} : ∀ {vs : List V} {ds : List PyData}, DqAll H vs ds → DqAll H vs.reverse ds.reverse
  | [], _, h => by
    cases h
    exact .nil
  | v :: vs, _, h => by
    cases h with
    | cons h1 h2 =>
      rw [List.reverse_cons, List.reverse_cons]
      exact (DqAll.rev h2).append (.cons h1 .nil)
mutual
theorem Dq.mono {H H' : Hp} (s : ∀ a o, H a = some o → (∀ xs, o = .lst xs → H' a = some o) ∧ (∀ xs, o = .tup xs → H' a = some o) ∧ (o = .dK [] → H' a = some o)) : ∀ (d : PyData) (v : V), Dq H v d → Dq H' v d
  | .none, _, h => by
    cases h
    exact .non
  | .bool b, _, h => by
    cases h
    exact .bl b
  | .int i, _, h => by
    cases h
    exact .int i
  | .str x, _, h => by
    cases h
    exact .str x
  | .list ds, _, h => by
    cases h with
    | lst e k => exact .lst ((s _ _ e).1 _ rfl) (Dq.monoAll s ds _ k)
  | .tuple ds, _, h => by
    cases h with
    | tup e k => exact .tup ((s _ _ e).2.1 _ rfl) (Dq.monoAll s ds _ k)
  | .dict _, _, h => by
    cases h with
    | dic e => exact .dic ((s _ _ e).2.2 rfl)
theorem Dq.monoAll {H H' : Hp} (s : ∀ a o, H a = some o → (∀ xs, o = .lst xs → H' a = some o) ∧ (∀ xs, o = .tup xs → H' a = some o) ∧ (o = .dK [] → H' a = some o)) : ∀ (ds : List PyData) (vs : List V), DqAll H vs ds → DqAll H' vs ds
  | [], _, h => by
    cases h
    exact .nil
  | d :: ds, _, h => by
    cases h with
    | cons h1 h2 => exact .cons (Dq.mono s d _ h1) (Dq.monoAll s ds _ h2)
end
theorem Dq.same {H H' : Hp} {v : V} {d : PyData} (h : Dq H v d) (s : Same H H') : Dq H' v d := Dq.mono (fun _ _ e => ⟨fun _ _ => s _ _ e, fun _ _ => s _ _ e, fun _ => s _ _ e⟩) d v h
theorem DqAll.same {H H' : Hp} {v : List V} {d : List PyData} (h : DqAll H v d) (s : Same H H') : DqAll H' v d := Dq.monoAll (fun _ _ e => ⟨fun _ _ => s _ _ e, fun _ _ => s _ _ e, fun _ => s _ _ e⟩) d v h
section
variable {X : Cx} {pins : List (Addr × Obj)} {σ : L2.St} {H : Hp} {s : Shared}
open PySem.Spec PyProof.Rows
theorem tracked_ne (I : L2.Inv X pins σ H s) (hm : ∃ o, X.base.get? sysModules = some o) {a : Addr} {o : HO} (e : H a = some o) : sysModules ≠ a := fun z => by
  obtain ⟨ob, hb⟩ := hm
  have n := (I.bs _ _ hb).2
  rw [z, e] at n
  cases n
mutual
theorem Dq.reads (I : L2.Inv X pins σ H s) (hm : ∃ o, X.base.get? sysModules = some o) : ∀ (d : PyData) (v : V) (u : Value), Dq H v d → L2.RelV v u → ∃ as, Reads s.heap u d as ∧ sysModules ∉ as
  | .none, _, _, h, r => by
    cases h
    cases r
    exact ⟨_, Reads.none, by simp⟩
  | .bool b, _, _, h, r => by
    cases h
    cases r
    exact ⟨_, Reads.bool b, by simp⟩
  | .int i, _, _, h, r => by
    cases h
    obtain ⟨t, rfl⟩ := r
    exact ⟨_, Reads.int i t, by simp⟩
  | .str x, _, _, h, r => by
    cases h
    obtain ⟨t, rfl⟩ := r
    exact ⟨_, Reads.str x t, by simp⟩
  | .list ds, _, _, h, r => by
    cases h with
    | lst e k =>
      cases r
      have ne := tracked_ne I hm e
      obtain ⟨its, rv, ⟨o, n, ho, hc, _, hd⟩, _⟩ := I.list (SqL.of e)
      obtain ⟨as, hr, hn⟩ := Dq.readsAll I hm ds _ its k rv
      exact ⟨_, Reads.list ho hc hd hr, fun z => by
        rcases List.mem_cons.mp z with z | z
        · exact ne z
        · exact hn z⟩
  | .tuple ds, _, _, h, r => by
    cases h with
    | tup e k =>
      cases r
      obtain ⟨its, rv, ⟨o, ho, hc, n, hd⟩, _⟩ := I.tuple (SqT.of e)
      obtain ⟨as, hr, hn⟩ := Dq.readsAll I hm ds _ its k rv
      exact ⟨_, Reads.tuple ho hc hd hr, hn⟩
  | .dict _, _, _, h, r => by
    cases h with
    | dic e =>
      cases r
      have ne := tracked_ne I hm e
      obtain ⟨_, _, vs, kv, o, es, ep, h1, h2, h3, h4, h6, _⟩ := I.hok _ _ e
      cases kv
      have h5 : es.toList = [] := by
        revert h6
        cases es.toList with
        | nil => exact fun _ => rfl
        | cons x y =>
          intro z
          cases z
      refine ⟨_, Reads.dict (kvs := []) (as := []) (bs := []) h1 h2.1 h3 (by rw [h5]; exact .nil) (by rw [h5]; exact .nil), fun z => ?_⟩
      rcases List.mem_cons.mp z with z | z
      · exact ne z
      · simp at z
theorem Dq.readsAll (I : L2.Inv X pins σ H s) (hm : ∃ o, X.base.get? sysModules = some o) : ∀ (ds : List PyData) (vs : List V) (us : List Value), DqAll H vs ds → L2.Vals vs us → ∃ as, ReadsAll s.heap us ds as ∧ sysModules ∉ as
  | [], _, _, h, r => by
    cases h
    cases r
    exact ⟨_, ReadsAll.nil, by simp⟩
  | d :: ds, _, _, h, r => by
    cases h with
    | cons h1 h2 =>
      cases r with
      | cons r1 r2 =>
        obtain ⟨as, q1, n1⟩ := Dq.reads I hm d _ _ h1 r1
        obtain ⟨bs, q2, n2⟩ := Dq.readsAll I hm ds _ _ h2 r2
        exact ⟨_, ReadsAll.cons q1 q2, fun z => (List.mem_append.mp z).elim n1 n2⟩
end
end
section
variable {X : Cx}
open PySem.Spec PyProof.Rows in
/-- repr(x), x any such thing -/
theorem call_reprQ (hm : ∃ o, X.base.get? sysModules = some o) (hg : X.A.guards = some []) (hu : X.A.units + 80 < cLine) : CallR X (.builtin "repr") (fun xs H Q => ∃ (x : V) (d : PyData), xs = [x] ∧ Dq H x d ∧ d.showable = true ∧ d.depth ≤ 64 ∧ d.shown.length ≤ sizeLine ∧ Q (.str d.shown) H) := by
  intro pins s σ H xs us Q I r h
  obtain ⟨x, d, rfl, hd, hs, hz, hl, q⟩ := h
  obtain ⟨u, rfl, ru⟩ := vals1 r
  cases hd with
  | non =>
    obtain rfl : u = Value.none := ru
    exact PySem.P.repr_of_none ⟨.str _, H, I.tok _, ⟨_, rfl⟩, q⟩
  | bl b =>
    obtain rfl : u = Value.bool b := ru
    exact PySem.P.repr_of_bool ⟨.str _, H, I.tok _, ⟨_, rfl⟩, q⟩
  | int i =>
    obtain ⟨t, rfl⟩ := ru
    exact PySem.P.repr_of_int (by simpa [PyData.showable] using hs) ⟨.str _, H, I.tok _, ⟨_, rfl⟩, q⟩
  | str z =>
    obtain ⟨t, rfl⟩ := ru
    exact PySem.P.repr_of_str ⟨.str _, H, I.tok _, ⟨_, rfl⟩, q⟩ hl
  | @lst a xs ds e k =>
    obtain ⟨as, rd, hn⟩ := Dq.reads I hm (.list ds) _ u (.lst e k) ru
    obtain rfl : u = Value.ref a := ru
    refine repr_of_reads' rd hs (fun _ => hn) hg (by omega) (fun _ _ z => z) (fun h' u tk hk => ?_) hl
    exact ⟨.str _, H, I.kept hk, ⟨_, rfl⟩, q⟩
  | @tup a xs ds e k =>
    obtain ⟨as, rd, hn⟩ := Dq.reads I hm (.tuple ds) _ u (.tup e k) ru
    obtain rfl : u = Value.ref a := ru
    refine repr_of_reads' rd hs (fun _ => hn) hg (by omega) (fun _ _ z => z) (fun h' u tk hk => ?_) hl
    exact ⟨.str _, H, I.kept hk, ⟨_, rfl⟩, q⟩
  | @dic a e =>
    obtain ⟨as, rd, hn⟩ := Dq.reads I hm (.dict []) _ u (.dic e) ru
    obtain rfl : u = Value.ref a := ru
    refine repr_of_reads' rd hs (fun _ => hn) hg (by omega) (fun _ _ z => z) (fun h' u tk hk => ?_) hl
    exact ⟨.str _, H, I.kept hk, ⟨_, rfl⟩, q⟩
end
/-! ### how great a thing is -/
def Gd (n m : Nat) (d : PyData) : Prop := d.showable = true ∧ d.leavesShort 120 = true ∧ d.weight ≤ n ∧ d.depth ≤ m
def GdAll (n m : Nat) (ds : List PyData) : Prop := PyData.showableAll ds = true ∧ PyData.leavesShortAll 120 ds = true ∧ PyData.weightAll ds ≤ n ∧ PyData.depthAll ds ≤ m
theorem Gd.mono {n m n' m' : Nat} {d : PyData} (h : Gd n m d) (a : n ≤ n') (b : m ≤ m') : Gd n' m' d := ⟨h.1, h.2.1, by have := h.2.2.1; omega, by have := h.2.2.2; omega⟩
theorem GdAll.mono {n m n' m' : Nat} {d : List PyData} (h : GdAll n m d) (a : n ≤ n') (b : m ≤ m') : GdAll n' m' d := ⟨h.1, h.2.1, by have := h.2.2.1; omega, by have := h.2.2.2; omega⟩
theorem GdAll.nil {n m : Nat} : GdAll n m [] := ⟨by simp [PyData.showableAll], by simp [PyData.leavesShortAll], by simp [PyData.weightAll], by simp [PyData.depthAll]⟩
theorem GdAll.cons {a b m : Nat} {d : PyData} {ds : List PyData} (h : Gd a m d) (k : GdAll b m ds) : GdAll (a + 1 + b) m (d :: ds) := by
  obtain ⟨h1, h2, h3, h4⟩ := h
  obtain ⟨k1, k2, k3, k4⟩ := k
  refine ⟨by simp [PyData.showableAll, h1, k1], by simp [PyData.leavesShortAll, h2, k2], ?_, ?_⟩
  · simp only [PyData.weightAll]
    omega
  · simp only [PyData.depthAll]
    omega
theorem GdAll.head {n m : Nat} {d : PyData} {ds : List PyData} (h : GdAll n m (d :: ds)) : ∃ a b, a + 1 + b ≤ n ∧ Gd a m d ∧ GdAll b m ds := by
  obtain ⟨h1, h2, h3, h4⟩ := h
  simp only [PyData.showableAll, Bool.and_eq_true] at h1
  simp only [PyData.leavesShortAll, Bool.and_eq_true] at h2
  simp only [PyData.weightAll] at h3
  simp only [PyData.depthAll] at h4
  exact ⟨d.weight, PyData.weightAll ds, h3, ⟨h1.1, h2.1, Nat.le_refl _, by omega⟩, ⟨h1.2, h2.2, Nat.le_refl _, by omega⟩⟩
theorem GdAll.append {m : Nat} : ∀ {a b : Nat} {xs ys : List PyData}, GdAll a m xs → GdAll b m ys → GdAll (a + b) m (xs ++ ys)
  | _, _, [], _, _, k => k.mono (by omega) (by omega)
  | a, b, x :: xs, _, h, k => by
    obtain ⟨u, v, e, h1, h2⟩ := h.head
    exact (GdAll.cons h1 (GdAll.append h2 k)).mono (by omega) (by omega)
theorem GdAll.split {m : Nat} : ∀ {n : Nat} (xs : List PyData) {ys : List PyData}, GdAll n m (xs ++ ys) → ∃ a b, a + b ≤ n ∧ GdAll a m xs ∧ GdAll b m ys
  | n, [], _, h => ⟨0, n, by omega, .nil, h⟩
  | n, x :: xs, _, h => by
    obtain ⟨u, v, e, h1, h2⟩ := GdAll.head (show GdAll n m (x :: (xs ++ _)) from h)
    obtain ⟨a, b, e2, k1, k2⟩ := GdAll.split xs h2
    exact ⟨u + 1 + a, b, by omega, .cons h1 k1, k2⟩
theorem GdAll.cut {n m : Nat} {ds : List PyData} (i : Nat) (h : GdAll n m ds) : ∃ a b, a + b ≤ n ∧ GdAll a m (ds.take i) ∧ GdAll b m (ds.drop i) := by
  rw [← List.take_append_drop i ds] at h
  exact GdAll.split _ h
theorem GdAll.take {n m : Nat} {ds : List PyData} (i : Nat) (h : GdAll n m ds) : GdAll n m (ds.take i) := by
  obtain ⟨a, b, e, h1, _⟩ := h.cut i
  exact h1.mono (by omega) (by omega)
theorem GdAll.drop {n m : Nat} {ds : List PyData} (i : Nat) (h : GdAll n m ds) : GdAll n m (ds.drop i) := by
  obtain ⟨a, b, e, _, h1⟩ := h.cut i
  exact h1.mono (by omega) (by omega)
theorem GdAll.rev {m : Nat} : ∀ {n : Nat} {ds : List PyData}, GdAll n m ds → GdAll n m ds.reverse
  | _, [], h => h
  | n, x :: xs, h => by
    obtain ⟨u, v, e, h1, h2⟩ := h.head
    rw [List.reverse_cons]
    exact ((GdAll.rev h2).append (GdAll.cons h1 (GdAll.nil (n := 0)))).mono (by omega) (by omega)
theorem GdAll.get {m : Nat} : ∀ {n : Nat} {ds : List PyData} {i : Nat} {d : PyData}, GdAll n m ds → ds[i]? = some d → Gd n m d
  | _, [], _, _, _, e => by simp at e
  | n, x :: xs, 0, d, h, e => by
    obtain ⟨u, v, e2, h1, h2⟩ := h.head
    cases (Option.some.inj e)
    exact h1.mono (by omega) (by omega)
  | n, x :: xs, i + 1, d, h, e => by
    obtain ⟨u, v, e2, h1, h2⟩ := h.head
    exact (GdAll.get (i := i) h2 (show xs[i]? = some d from e)).mono (by omega) (by omega)
theorem Gd.tup {n m : Nat} {ds : List PyData} (h : GdAll n m ds) : Gd n (m + 1) (.tuple ds) := by
  obtain ⟨h1, h2, h3, h4⟩ := h
  exact ⟨by simp only [PyData.showable]; exact h1, by simp only [PyData.leavesShort]; exact h2, by simp only [PyData.weight]; exact h3, by simp only [PyData.depth]; omega⟩
theorem Gd.lst {n m : Nat} {ds : List PyData} (h : GdAll n m ds) : Gd n (m + 1) (.list ds) := by
  obtain ⟨h1, h2, h3, h4⟩ := h
  exact ⟨by simp only [PyData.showable]; exact h1, by simp only [PyData.leavesShort]; exact h2, by simp only [PyData.weight]; exact h3, by simp only [PyData.depth]; omega⟩
theorem Gd.of_tup {n m : Nat} {ds : List PyData} (h : Gd n m (.tuple ds)) : GdAll n m ds := by
  obtain ⟨h1, h2, h3, h4⟩ := h
  simp only [PyData.showable] at h1
  simp only [PyData.leavesShort] at h2
  simp only [PyData.weight] at h3
  simp only [PyData.depth] at h4
  exact ⟨h1, h2, h3, by omega⟩
theorem Gd.shown {n m : Nat} {d : PyData} (h : Gd n m d) (hn : n ≤ 100000) : d.shown.length ≤ sizeLine := by
  have z := PyData.shown_le 120 (by decide) d h.2.1
  have k := h.2.2.1
  have e : sizeLine = 16777216 := by decide
  omega
theorem Gd.int {i : Int} {k : Nat} (hk : 0 < k) (hk2 : k ≤ 110) (h : i.natAbs < 2 ^ k) : Gd (k + 1) 0 (.int i) := by
  refine ⟨?_, ?_, ?_, ?_⟩
  · simp only [PyData.showable, decide_eq_true_eq]
    exact Nat.lt_of_lt_of_le (PySem.Flt.log2_lt_of hk h) (by omega)
  · simp only [PyData.leavesShort, decide_eq_true_eq]
    have z := PySem.Flt.log2_lt_of hk h
    have e := int_text_length_le (a := i) (k := k) hk z
    show (Str.ofString (toString i)).length ≤ 120
    rw [PySem.ofString_length]
    omega
  · have z := PySem.Flt.log2_lt_of hk h
    simp only [PyData.weight]
    split <;> omega
  · simp [PyData.depth]
/-! ### the mathematics -/
def isInt : PyData → Bool
  | .int _ => true
  | _ => false
def isTup : PyData → Bool
  | .tuple _ => true
  | _ => false
def isNumD (p : Int) : PyData → Bool
  | .int i => decide (0 ≤ i) && decide (i < p)
  | _ => false
def isPairD (p : Int) : PyData → Bool
  | .tuple [x, y] => isNumD p x && isNumD p y
  | _ => false
def isRowD (p n : Int) : PyData → Bool
  | .tuple ds => decide ((ds.length : Int) = n) && ds.all (isPairD p)
  | _ => false
theorem Dq.ty {K : PySem.W.Frag} {H : Hp} {x : V} {d : PyData} (h : Dq H x d) : ∃ t, TyB1 K H x t ∧ (isB t "int" && !isB t "bool") = isInt d ∧ isB t "tuple" = isTup d := by
  cases h with
  | non => exact ⟨"NoneType", ⟨.base .non, by simp⟩, by decide +kernel, by decide +kernel⟩
  | bl b => exact ⟨"bool", ⟨.base (.bl b), by simp⟩, (by show (isB "bool" "int" && !isB "bool" "bool") = false; decide +kernel), (by show isB "bool" "tuple" = false; decide +kernel)⟩
  | int i => exact ⟨"int", ⟨.base (.int i), by simp⟩, (by show (isB "int" "int" && !isB "int" "bool") = true; decide +kernel), (by show isB "int" "tuple" = false; decide +kernel)⟩
  | str z => exact ⟨"str", ⟨.base (.str z), by simp⟩, (by show (isB "str" "int" && !isB "str" "bool") = false; decide +kernel), (by show isB "str" "tuple" = false; decide +kernel)⟩
  | lst e k => exact ⟨"list", ⟨.base (.lst e), by simp⟩, (by show (isB "list" "int" && !isB "list" "bool") = false; decide +kernel), (by show isB "list" "tuple" = false; decide +kernel)⟩
  | tup e k => exact ⟨"tuple", ⟨.base (.tup e), by simp⟩, (by show (isB "tuple" "int" && !isB "tuple" "bool") = false; decide +kernel), (by show isB "tuple" "tuple" = true; decide +kernel)⟩
  | dic e => exact ⟨"dict", ⟨.base (.dK e), by simp⟩, (by show (isB "dict" "int" && !isB "dict" "bool") = false; decide +kernel), (by show isB "dict" "tuple" = false; decide +kernel)⟩
def prs : List Int := [2, 3, 5, 7, 11, 13]
theorem prs_bd : ∀ p ∈ prs, 2 ≤ p ∧ p ≤ 13 := by decide
theorem ints_mem {cs : List Int} {i : Int} (h0 : 0 ≤ i) (h1 : i < cs.length) : ∃ v : Int, v ∈ cs ∧ atI (cs.map V.int) i = some (V.int v) := by
  obtain ⟨j, rfl⟩ := Int.eq_ofNat_of_zero_le h0
  have hj : j < cs.length := by omega
  refine ⟨cs[j], List.getElem_mem hj, ?_⟩
  apply atI_nat
  rw [List.getElem?_map, List.getElem?_eq_getElem hj]
  rfl
theorem isInt_of {H : Hp} {x : V} {d : PyData} (h : Dq H x d) (e : isInt d = true) : ∃ i, x = .int i ∧ d = .int i := by
  cases h <;> first | exact ⟨_, rfl, rfl⟩ | cases e
theorem isTup_of {H : Hp} {x : V} {d : PyData} (h : Dq H x d) (e : isTup d = true) : ∃ a xs ds, x = .ref a ∧ H a = some (.tup xs) ∧ DqAll H xs ds ∧ d = .tuple ds := by
  cases h <;> first | exact ⟨_, _, _, rfl, by assumption, by assumption, rfl⟩ | cases e
theorem num_false {p : Int} {d : PyData} (e : isInt d = false) : isNumD p d = false := by
  cases d <;> first | rfl | cases e
theorem row_false {p n : Int} {d : PyData} (e : isTup d = false) : isRowD p n d = false := by
  cases d <;> first | rfl | cases e
theorem pair_false {p : Int} {d : PyData} (e : isTup d = false) : isPairD p d = false := by
  cases d <;> first | rfl | cases e
theorem pair_len {p : Int} {ds : List PyData} (e : ¬ ((ds.length : Int) = 2)) : isPairD p (.tuple ds) = false := by
  match ds, e with
  | [], _ => rfl
  | [_], _ => rfl
  | [_, _], e => exact absurd rfl e
  | _ :: _ :: _ :: _, _ => rfl
theorem two_of {ds : List PyData} (e : (ds.length : Int) = 2) : ∃ x y, ds = [x, y] := by
  match ds, e with
  | [x, y], _ => exact ⟨x, y, rfl⟩
  | [], e => cases e
  | [_], e => cases e
  | _ :: _ :: _ :: r, e =>
    have e2 : ((r.length + 3 : Nat) : Int) = 2 := e
    omega
/-! ### t[::-1], t == () -/
section
open PySem.Spec PyProof.Rows PySem.Builtin HT
variable {prog : Program} {w : World} {A : Around} {E : Value → Shared → Prop} {s : Shared}
theorem adjust_back (n : Nat) : Slice.sliceAdjust none none (-1) (n : Int) = ((n : Int) - 1, -1) := by
  unfold Slice.sliceAdjust
  simp
theorem places_back (n : Nat) : Slice.slicePlaces ((n : Int) - 1) (-1) (-1) = n := by
  unfold Slice.slicePlaces
  rw [if_neg (by decide)]
  split
  · simp
  · omega
theorem applied_back {sl : Addr} {t : Tok} {n : Nat} {Q : Int × Int × Nat → Shared → Prop} (hs : s.heap.IsSliceOf sl .none .none (.int (-1) t))
    (h : Q ((n : Int) - 1, -1, n) s) : wpAny (model prog w) A (Slice.sliceApplied (.ref sl) (pure (n : Int))) Q E s := by
  obtain ⟨os, hos, hcs, hds⟩ := id hs
  unfold Slice.sliceApplied Slice.sliceFields
  refine wpAny_bind (wpAny_bind (wpAny_field hos hds (x := .none) rfl ?_))
  refine wpAny_bind (wpAny_field hos hds (x := .none) rfl ?_)
  refine wpAny_bind (wpAny_field hos hds (x := .int (-1) t) rfl (wpAny_pure ?_))
  refine wpAny_bind (slicePart_int ?_)
  show wpAny _ _ (if ((-1 : Int) == 0) = true then _ else _) _ _ s
  rw [if_neg (by decide)]
  refine wpAny_bind (slicePart_none ?_)
  refine wpAny_bind (slicePart_none ?_)
  refine wpAny_bind (wpAny_pure ?_)
  show wpAny _ _ (match Slice.sliceAdjust none none (-1) (n : Int) with | (lo, hi) => pure (lo, (-1 : Int), Slice.slicePlaces lo hi (-1))) _ _ s
  rw [adjust_back]
  show wpAny _ _ (pure ((n : Int) - 1, (-1 : Int), Slice.slicePlaces ((n : Int) - 1) (-1) (-1))) _ _ s
  rw [places_back]
  exact wpAny_pure h
theorem fm_some {α β : Type} (f : α → Option β) (g : α → β) : ∀ l : List α, (∀ x ∈ l, f x = some (g x)) → l.filterMap f = l.map g
  | [], _ => rfl
  | x :: r, h => by
    rw [List.filterMap_cons, h x (List.mem_cons_self ..), fm_some f g r fun y hy => h y (List.mem_cons_of_mem _ hy)]
    rfl
theorem pick_back (xs : Array Value) : ((List.range xs.size).filterMap fun (m : Nat) => xs[(((xs.size : Int) - 1) + (m : Int) * (-1)).toNat]?).toArray = xs.toList.reverse.toArray := by
  congr 1
  rw [fm_some _ (fun m => xs.toList.getD (xs.size - 1 - m) Value.none) _ fun m hm => ?_]
  · apply List.ext_getElem?
    intro i
    rw [List.getElem?_map]
    by_cases h : i < xs.size
    · have hr : (List.range xs.size)[i]? = some i := List.getElem?_range h
      rw [hr, List.getElem?_reverse (by rw [Array.length_toList]; exact h), Array.length_toList]
      have h2 : xs.size - 1 - i < xs.toList.length := by
        rw [Array.length_toList]
        omega
      show some (xs.toList.getD (xs.size - 1 - i) Value.none) = _
      rw [List.getD_eq_getElem?_getD, List.getElem?_eq_getElem h2]
      rfl
    · rw [List.getElem?_eq_none (by rw [List.length_range]; omega), List.getElem?_eq_none (by rw [List.length_reverse, Array.length_toList]; omega)]
      rfl
  · have h := List.mem_range.mp hm
    have e : (((xs.size : Int) - 1) + (m : Int) * (-1)).toNat = xs.size - 1 - m := by omega
    have h2 : xs.size - 1 - m < xs.toList.length := by
      rw [Array.length_toList]
      omega
    rw [e, ← Array.getElem?_toList, List.getD_eq_getElem?_getD, List.getElem?_eq_getElem h2]
    rfl
theorem item_back {t sl : Addr} {items : Array Value} {tk : Tok} {Q : Value → Shared → Prop} (ht : IsTup s.heap t items) (hs : s.heap.IsSliceOf sl .none .none (.int (-1) tk))
    (h : Q (.ref s.heap.objs.size) { s with heap := s.heap.push { cls := .type "tuple", data := .seq items.toList.reverse.toArray } })
    (hsz : items.size ≤ sizeLine) : wpAny (model prog w) A (getItem (.ref t) (.ref sl)) Q E s := by
  have fits : sizeOk (.seq items.toList.reverse.toArray) := by
    show items.toList.reverse.toArray.size ≤ sizeLine
    rw [List.size_toArray, List.length_reverse, Array.length_toList]
    exact hsz
  obtain ⟨os, hos, hcs, hds⟩ := id hs
  have ty : s.TypeIs (.ref sl) "slice" := ⟨os, hos, hcs⟩
  unfold getItem
  try with_reducible refine wpAny_holding ?_
  first
  | refine wpAny_bind (wpAny_pure ?_)
  | skip
  refine wpAny_bind (wpAny_sequenceKey ht.typeIs (by decide) ?_)
  refine wpAny_bind (wpAny_callSpecial?_slot (name := Str.ofString "__getitem__") ht.typeIs slot_tuple_getitem ?_)
  refine wpAny_call_entry slot_tuple_getitem ht.typeIs entry_tuple_getitem ?_ (args_tuple_getitem _ _)
  show wpAny _ _ (Tuple.tupleItemsOf (.ref t) >>= _) _ _ s
  refine wpAny_bind (tupleItemsOf_ ht ?_)
  refine wpAny_bind (wpAny_typeOf ty ?_)
  rw [if_pos (by decide)]
  refine wpAny_bind (applied_back hs ?_)
  have no : ¬ ((((items.size : Int) - 1) == 0 && (-1 : Int) == 1 && items.size == items.size) = true) := by
    intro z
    rw [Bool.and_eq_true, Bool.and_eq_true] at z
    exact absurd (eq_of_beq z.1.2) (by decide)
  show wpAny _ _ (if (((items.size : Int) - 1) == 0 && (-1 : Int) == 1 && items.size == items.size) = true then _ else _) _ _ s
  rw [if_neg no, pick_back]
  first
  | exact wpAny_bind (m := Tuple.tupleExact _) (wpAny_newObj_type (wpAny_pure ⟨_, rfl, wpAny_pure h⟩) fits)
  | exact wpAny_bind (m := Tuple.tupleExact _) (wpAny_newObj_type (wpAny_bind (wpAny_pure (wpAny_pure ⟨_, rfl, wpAny_pure h⟩))) fits)
  | exact wpAny_bind (wpAny_bind (m := Tuple.tupleExact _) (wpAny_newObj_type (wpAny_pure (wpAny_pure ⟨_, rfl, wpAny_pure h⟩)) fits))
  | exact wpAny_bind (wpAny_bind (m := Tuple.tupleExact _) (wpAny_newObj_type (wpAny_pure ⟨_, rfl, wpAny_pure h⟩) fits))
end
section
open PySem.Spec PyProof.Rows
variable {X : Cx}
def tRevT (K : PySem.W.Frag) (te : TE) : TE := fun σ H Q => te σ H fun x H1 => ∃ a xs, x = .ref a ∧ SqT K H1 a xs ∧ ∀ p, H1 p = none → Q (.ref p) (upd H1 p (.tup xs.reverse))
theorem pe_revT {e : Expr} {te : TE} {k : Nat} {p1 p2 p3 pos : Pos} (he : PE X e te) : PE X (.Subscript e (.Slice none none (some (.UnaryOp .USub (.Constant (.int 1) k p1) p2)) p3) pos) (tRevT X.K te) := by
  refine ⟨fun pins s σ H Q I h => Subscript_ (thn (he.run pins s σ H _ I h) fun v s1 ⟨x, H1, I1, r1, a, xs, ex, hx, q⟩ => ?_)⟩
  subst ex
  cases r1
  have back : PO X (some (.UnaryOp .USub (.Constant (.int 1) k p1) p2)) (tPart (tUn (rU fun i => .int (-i)) (tC (.int 1)))) := po_some (pe_un un_neg pe_int)
  refine wpAny_Slice (thn (po_none.run pins s1 σ H1 (fun o G => o = none ∧ G = H1) I1 ⟨rfl, rfl⟩) fun v1 s2 ⟨o1, G1, I2, part1, e1, g1⟩ => ?_)
  subst e1 g1
  refine thn (po_none.run pins s2 σ G1 (fun o G => o = none ∧ G = G1) I2 ⟨rfl, rfl⟩) fun v2 s3 ⟨o2, G2, I3, part2, e2, g2⟩ => ?_
  subst e2 g2
  refine thn (back.run pins s3 σ G2 (fun o G => o = some (-1) ∧ G = G2) I3 ⟨1, rfl, -1, rfl, rfl, rfl⟩) fun v3 s4 ⟨o3, G3, I4, part3, e3, g3⟩ => ?_
  subst e3 g3
  cases part1
  cases part2
  cases part3 with
  | int i tk =>
    have I5 : L2.Inv X pins σ G3 { s4 with heap := s4.heap.push { cls := .type "slice", data := .fields #[.none, .none, .int (-1) tk] } } := I4.kept (t' := s4.toks) fun b ob z => Heap.get?_push_of_some _ z
    obtain ⟨its, r, ht, hz⟩ := I5.tuple hx
    have hlen := r.length
    show wpAny (model X.prog X.w) X.A (subscriptTail e _ (.ref a) (.ref s4.heap.objs.size)) (EP X pins σ Q) X.xe _
    refine tail_any (ops := [.ref a, .ref s4.heap.objs.size]) ht.typeIs slot_tuple_getitem.lookup ?_ (by with_unfolding_all rfl)
    refine item_back ht (Heap.IsSliceOf.new _ .none .none (.int (-1) tk)) ?_ (by rw [List.size_toArray]; omega)
    refine ⟨.ref _, _, I5.laid (t' := s4.toks) (o := .tup xs.reverse) (fun b ob z => Heap.get?_push_of_some _ z) (Nat.le_refl _) ?_, rfl, q _ (I5.hok.fresh (Nat.le_refl _))⟩
    exact ⟨by rw [List.length_reverse]; exact hz, its.reverse, r.reverse, _, Heap.get?_push_size _ rfl, rfl, _, rfl⟩
/-- t == u for tuples of which the second is empty -/
theorem op_eqT0 (hu : X.A.units + 80 < cLine) : OpR X (compareOp .Eq) (fun x y H Q => ∃ a b xs, x = .ref a ∧ y = .ref b ∧ SqT X.K H a xs ∧ SqT X.K H b [] ∧ Q (.bl xs.isEmpty) H) := by
  intro pins s σ H x y v u Q I rx ry h
  obtain ⟨a, b, xs, rfl, rfl, ha, hb, q⟩ := h
  cases rx
  cases ry
  obtain ⟨its, r, ht, hz⟩ := I.tuple ha
  obtain ⟨its2, r2, ht2, _⟩ := I.tuple hb
  cases r2
  refine SeqAt.eq_tupleAt (e := fun _ => true) ht ht2 (by omega) (fun j h1 h2 => absurd h2 (by simp)) ?_
  refine ⟨.bl xs.isEmpty, H, I, ?_, q⟩
  cases r with
  | nil => rfl
  | cons _ _ =>
    simp
    rfl
end
/-! ### things beside the deck -/
def cut (d g : Addr) (H : Hp) : Hp := fun a => if a = d ∨ a = g then none else H a
theorem cut_same {d g : Addr} {H : Hp} : Same (cut d g H) H := fun a o e => by
  unfold cut at e
  split at e
  · cases e
  · exact e
theorem cut_at {d g a : Addr} {H : Hp} {o : HO} (h1 : a ≠ d) (h2 : a ≠ g) (e : H a = some o) : cut d g H a = some o := by
  unfold cut
  rw [if_neg (fun z => z.elim h1 h2)]
  exact e
theorem Fr.cut {d g : Addr} {H H' : Hp} (f : Fr d g H H') : Same (cut d g H) (cut d g H') := fun a o e => by
  unfold Kp.cut at e ⊢
  split at e
  · cases e
  · rename_i n
    rw [if_neg n]
    exact f a o (fun z => n (.inl z)) (fun z => n (.inr z)) e
theorem cut_upd {d g L : Addr} {H : Hp} {o : HO} : Fr L L (cut d g H) (cut d g (upd H L o)) := fun a x h1 _ e => by
  unfold Kp.cut at e ⊢
  split at e
  · cases e
  · rename_i n
    rw [if_neg n, upd_ne h1]
    exact e
def Thg (d g : Addr) (n m : Nat) (H : Hp) (x : V) : Prop := ∃ dd, Dq (cut d g H) x dd ∧ Gd n m dd
def Ths (d g : Addr) (n m : Nat) (H : Hp) (xs : List V) : Prop := ∃ ds, DqAll (cut d g H) xs ds ∧ GdAll n m ds
section
variable {d g c : Addr} {k : Int} {n m n' m' : Nat} {H H' : Hp} {x : V} {xs ys : List V}
theorem Thg.fr (h : Thg d g n m H x) (f : Fr d g H H') : Thg d g n m H' x := let ⟨dd, h1, h2⟩ := h; ⟨dd, h1.same f.cut, h2⟩
theorem Ths.fr (h : Ths d g n m H xs) (f : Fr d g H H') : Ths d g n m H' xs := let ⟨dd, h1, h2⟩ := h; ⟨dd, h1.same f.cut, h2⟩
theorem Thg.mono (h : Thg d g n m H x) (a : n ≤ n') (b : m ≤ m') : Thg d g n' m' H x := let ⟨dd, h1, h2⟩ := h; ⟨dd, h1, h2.mono a b⟩
theorem Ths.mono (h : Ths d g n m H xs) (a : n ≤ n') (b : m ≤ m') : Ths d g n' m' H xs := let ⟨dd, h1, h2⟩ := h; ⟨dd, h1, h2.mono a b⟩
theorem Ths.nil : Ths d g n m H [] := ⟨[], .nil, .nil⟩
theorem Ths.cons (h : Thg d g n m H x) (t : Ths d g n' m H xs) : Ths d g (n + 1 + n') m H (x :: xs) := let ⟨a, h1, h2⟩ := h; let ⟨b, t1, t2⟩ := t; ⟨a :: b, .cons h1 t1, .cons h2 t2⟩
theorem Ths.append (h : Ths d g n m H xs) (t : Ths d g n' m H ys) : Ths d g (n + n') m H (xs ++ ys) := let ⟨a, h1, h2⟩ := h; let ⟨b, t1, t2⟩ := t; ⟨a ++ b, h1.append t1, h2.append t2⟩
theorem Ths.cutV (h : Ths d g n m H xs) (lo hi : Option Int) : Ths d g n m H (cutV xs lo hi) := let ⟨_, h1, h2⟩ := h; ⟨_, (h1.drop _).take _, (h2.drop _).take _⟩
theorem Ths.rev (h : Ths d g n m H xs) : Ths d g n m H xs.reverse := let ⟨_, h1, h2⟩ := h; ⟨_, h1.rev, h2.rev⟩
theorem Ths.get {i : Nat} (h : Ths d g n m H xs) (e : xs[i]? = some x) : Thg d g n m H x := by
  obtain ⟨ds, h1, h2⟩ := h
  obtain ⟨dd, e1, e2⟩ := h1.get e
  exact ⟨dd, e2, h2.get e1⟩
theorem GdAll.len {m : Nat} : ∀ {n : Nat} {ds : List PyData}, GdAll n m ds → ds.length ≤ n
  | _, [], _ => Nat.zero_le _
  | n, _ :: r, h => by
    obtain ⟨u, v, e, h1, h2⟩ := h.head
    have z := GdAll.len h2
    show r.length + 1 ≤ n
    omega
theorem Ths.len (h : Ths d g n m H xs) : xs.length ≤ n := by
  obtain ⟨ds, h1, h2⟩ := h
  rw [h1.length]
  exact h2.len
theorem Thg.newT {p : Addr} (D : Dk d g c k H) (hp : H p = none) (h : Ths d g n m H xs) : Thg d g n (m + 1) (upd H p (.tup xs)) (.ref p) := by
  obtain ⟨ds, h1, h2⟩ := h
  have np := D.nd hp
  exact ⟨.tuple ds, .tup (cut_at np.1 np.2.1 upd_same) (h1.same (Fr.new hp).cut), .tup h2⟩
theorem Thg.newL {p : Addr} (D : Dk d g c k H) (hp : H p = none) (h : Ths d g n m H xs) : Thg d g n (m + 1) (upd H p (.lst xs)) (.ref p) := by
  obtain ⟨ds, h1, h2⟩ := h
  have np := D.nd hp
  exact ⟨.list ds, .lst (cut_at np.1 np.2.1 upd_same) (h1.same (Fr.new hp).cut), .lst h2⟩
theorem Thg.int {i : Int} (h : i.natAbs < 2 ^ 110) : Thg d g 111 m H (.int i) := ⟨.int i, .int i, (Gd.int (by decide) (by decide) h).mono (Nat.le_refl _) (Nat.zero_le _)⟩
theorem Thg.small {i : Int} (h : i.natAbs < 16) : Thg d g 5 m H (.int i) := ⟨.int i, .int i, (Gd.int (k := 4) (by decide) (by decide) h).mono (Nat.le_refl _) (Nat.zero_le _)⟩
theorem Ths.pick {r : Int} (h : Ths d g n m H xs) (h0 : 0 ≤ r) (h1 : r < xs.length) : ∃ y, atI xs r = some y ∧ Thg d g n m H y := by
  obtain ⟨j, rfl⟩ := Int.eq_ofNat_of_zero_le h0
  have hj : j < xs.length := by omega
  exact ⟨xs[j], atI_nat (List.getElem?_eq_getElem hj), h.get (List.getElem?_eq_getElem hj)⟩
theorem Ths.at_ {r : Int} (h : Ths d g n m H xs) (h0 : 0 ≤ r) (h1 : r < xs.length) : ∃ y, atI xs r = some y ∧ Thg d g n m H y := h.pick h0 h1
theorem Thg.bl {b : Bool} : Thg d g n m H (.bl b) := ⟨.bool b, .bl b, by simp [PyData.showable], by simp [PyData.leavesShort], by simp [PyData.weight], by simp [PyData.depth]⟩
theorem Thg.non : Thg d g n m H .non := ⟨.none, .non, by simp [PyData.showable], by simp [PyData.leavesShort], by simp [PyData.weight], by simp [PyData.depth]⟩
theorem Thg.str {z : Str} (h1 : PyData.leavesShort 120 (.str z) = true) (h2 : z.cps.size ≤ n) : Thg d g n m H (.str z) := ⟨.str z, .str z, by simp [PyData.showable], h1, by simpa [PyData.weight] using h2, by simp [PyData.depth]⟩
theorem Thg.dic {p : Addr} (D : Dk d g c k H) (hp : H p = none) : Thg d g n (m + 1) (upd H p (.dK [])) (.ref p) := by
  have np := D.nd hp
  exact ⟨.dict [], .dic (cut_at np.1 np.2.1 upd_same), by simp [PyData.showable, PyData.showableKv], by simp [PyData.leavesShort, PyData.leavesShortKv], by simp [PyData.weight, PyData.weightKv], by simp [PyData.depth, PyData.depthKv]⟩
/-- its type: a tuple of such, or something else -/
theorem Thg.ty (K : PySem.W.Frag) (h : Thg d g n m H x) : ∃ t, TyB1 K H x t ∧ ((isB t "tuple" = true ∧ ∃ a xs, x = .ref a ∧ H a = some (.tup xs) ∧ Ths d g n m H xs) ∨ isB t "tuple" = false) := by
  obtain ⟨dd, h1, h2⟩ := h
  have h1' := h1.same cut_same
  obtain ⟨t, ty, _, et⟩ := h1'.ty (K := K)
  refine ⟨t, ty, ?_⟩
  cases e : isTup dd with
  | false => exact .inr (et.trans e)
  | true =>
    obtain ⟨a, xs, ds, rfl, ha, hds, rfl⟩ := isTup_of h1 e
    exact .inl ⟨et.trans e, a, xs, rfl, cut_same _ _ ha, ds, hds, h2.of_tup⟩
theorem cat_ok {K : PySem.W.Frag} {a b : Addr} {Q : VK} (D : Dk d g c k H) (ha : H a = some (.tup xs)) (hb : H b = some (.tup ys)) (ta : Ths d g n m H xs) (tb : Ths d g n' m H ys) (hl : n + n' ≤ 100000)
    (q : ∀ (p : Addr) (zs : List V) (H' : Hp), Dk d g c k H' → Fr d g H H' → H' p = some (.tup zs) → Ths d g (n + n') m H' zs → Q (.ref p) H') : rCatA K (.ref a) (.ref b) H Q := by
  have l1 := ta.len
  have l2 := tb.len
  have e : sizeLine = 16777216 := by decide
  refine ⟨a, b, xs, ys, rfl, rfl, SqT.of ha, SqT.of hb, by omega, fun z => ?_, fun _ z => ?_, fun _ _ p hp => ?_⟩
  · exact q b ys H D (Fr.refl _ _ _) hb (tb.mono (by omega) (Nat.le_refl _))
  · exact q a xs H D (Fr.refl _ _ _) ha (ta.mono (by omega) (Nat.le_refl _))
  · exact q p _ _ (D.same (same_upd hp)) (.new hp) upd_same ((ta.append tb).fr (.new hp))
theorem sl_ok {K : PySem.W.Frag} {a : Addr} {lo hi : Option Int} {Q : VK} (D : Dk d g c k H) (ha : H a = some (.tup xs)) (ta : Ths d g n m H xs)
    (q : ∀ (p : Addr) (zs : List V) (H' : Hp), Dk d g c k H' → Fr d g H H' → H' p = some (.tup zs) → Ths d g n m H' zs → Q (.ref p) H') : rSlA K (.ref a) lo hi H Q :=
  ⟨a, xs, rfl, SqT.of ha, fun _ => q a xs H D (Fr.refl _ _ _) ha ta, fun _ p hp => q p _ _ (D.same (same_upd hp)) (.new hp) upd_same ((ta.cutV lo hi).fr (.new hp))⟩
end
section
variable {P : Program} {w : World} {K : PySem.W.Frag} {mg : Str → Option Value} {base : Heap} {A : Ad}
/-! ### the deck -/
def spDeck (K : PySem.W.Frag) : Sp := fun vs H Q _ => ∃ (a : Addr) (ns : List Int), vs = [.ref a] ∧ SqL K H a (ns.map V.int) ∧ ns.length ≤ 63 ∧
  ∀ (d g c : Addr) (H' : Hp), Same H H' → H d = none → H g = none → H c = none → Dk d g c 0 H' → Q (.ref d) H'
theorem ok__law_deck (T : Tx K mg A) : FnOk P w K mg base CX0 1 A.f__law_deck A.d__law_deck ["_law_script"] (spDeck K) := by
  refine T.d__law_deck.F.ok sc__law_deck (fun vs H Q E h => ?_) (fun cdv A outer s H vs Q E hr h => ?_)
  · obtain ⟨a, ns, rfl, _⟩ := h
    rfl
  · obtain ⟨a, ns, rfl, hS, hlen, k⟩ := h
    refine ⟨_, (pss_cons (ps_setLc (i := 1) (own := [("_law_cell", 2)]) rfl sc__law_deck.nd rfl rfl (sw_true rfl rfl rfl (by decide +kernel)) (pi_list (pv 0)) (blkOk_by (N := N__law_deck) (sc := defScope s__law_deck) (by decide +kernel)) (fun _ _ _ _ _ => (pg_name (i := 2) sc__law_deck.nd rfl (.inl rfl))) (fun _ _ _ _ _ => pts_nil) (fun _ _ _ _ _ => (pe_callB call_abs (by rfl) T.b_abs PyProof.Rows.boot_abs (pa_cons (pv 2) pa_nil))))
        (pss_one (ps_ret (pe_lst (pa_cons (pe_lc (own := [("_law_cell", 2)]) rfl sc__law_deck.nd (pi_list (pv 1)) (blkOk_by (N := N__law_deck) (sc := defScope s__law_deck) (by decide +kernel)) (fun _ _ _ _ _ => (pg_name (i := 2) sc__law_deck.nd rfl (.inl rfl))) (fun _ _ _ _ _ => (pts_one (pt_cmpR op_ge (pv 2) (pe_op op_pow pe_int pe_int) (nomark _)))) (fun _ _ _ _ _ => (pv 2))) (pa_cons (pe_op op_cat (pv 1) (pe_lst (pa_cons (pe_op op_add (pe_callB call_len_seq (by rfl) T.b_len PySem.boot_len (pa_cons (pv 1) pa_nil)) pe_int) pa_nil))) (pa_cons pe_int pa_nil))))))), ?_⟩
    -- cells = [abs(cell) for cell in script]
    refine ⟨.ref a, rfl, a, rfl, ⟨_, hS⟩, fun D hD => lc_list (xs := ns.map V.int) (fun i H' => Same H H' ∧ ∃ cs : List Int, cs.length = i ∧ H' D = some (.lst (cs.map V.int))) ⟨same_upd hD, [], rfl, upd_same⟩ (fun i H' _ h => h.1.seq hS) ?_ ?_⟩
    · rintro i x H' hi ⟨s1, cs, hc, hDs⟩
      obtain ⟨u, rfl⟩ := int_of_map hi
      have hi63 : i < ns.length := by
        have q := (List.getElem?_eq_some_iff.mp hi).1
        rw [List.length_map] at q
        exact q
      refine ⟨rfl, .int u, rfl, u, rfl, cs.map V.int, hDs, by rw [List.length_map]; exact small1000 (by omega), ?_⟩
      refine ⟨fun b o e => ?_, cs ++ [if u < 0 then -u else u], by rw [List.length_append, hc]; rfl, by rw [upd_same, List.map_append]; rfl⟩
      rw [upd_ne (ne_of_none e hD)]
      exact s1 _ _ e
    · rintro H1 ⟨s1, cs, hc, hDs⟩
      rw [List.length_map] at hc
      -- the great ones
      refine ⟨.ref D, rfl, D, rfl, ⟨_, .inl (.inl hDs)⟩, fun G hG => lc_list (xs := cs.map V.int) (fun i H' => Same H1 H' ∧ ∃ gs : List Int, gs.length ≤ i ∧ H' G = some (.lst (gs.map V.int))) ⟨same_upd hG, [], Nat.le_refl _, upd_same⟩ (fun i H' _ h => h.1.seq (.inl (.inl hDs))) ?_ ?_⟩
      · rintro i x H' hi ⟨s2, gs, hg, hGs⟩
        obtain ⟨u, rfl⟩ := int_of_map hi
        have hi63 : i < cs.length := by
          have q := (List.getElem?_eq_some_iff.mp hi).1
          rw [List.length_map] at q
          exact q
        refine ⟨rfl, .int u, rfl, _, _, rfl, rfl, ⟨by decide, by decide, by decide⟩, u, _, rfl, rfl, _, rfl, ite2 (fun _ => ?_) (fun _ => ?_)⟩
        · refine ⟨.int u, rfl, gs.map V.int, hGs, by rw [List.length_map]; exact small1000 (by omega), fun b o e => ?_, gs ++ [u], ?_, by rw [upd_same, List.map_append]; rfl⟩
          · rw [upd_ne (ne_of_none e hG)]
            exact s2 _ _ e
          · rw [List.length_append, List.length_singleton]
            omega
        · exact ⟨s2, gs, by omega, hGs⟩
      · rintro H2 ⟨s2, gs, hg, hGs⟩
        rw [List.length_map] at hg
        have hD2 : H2 D = some (.lst (cs.map V.int)) := s2 _ _ hDs
        -- cells + [len(cells) + 3]
        refine ⟨.ref D, rfl, .ref D, rfl, D, _, rfl, .inl (.inl (.inl hD2)), _, _, rfl, rfl, (by show 1 ≤ sizeLine; decide), fun p hp => ?_⟩
        have npD : D ≠ p := ne_of_none hD2 hp
        have npG : G ≠ p := ne_of_none hGs hp
        refine ⟨D, p, cs.map V.int, _, rfl, rfl, by rw [upd_ne npD]; exact hD2, upd_same, ?_, fun c hc' => ?_⟩
        · rw [List.length_map]
          exact Nat.le_of_lt (small1000 (by show cs.length + 1 ≤ 1000; omega))
        · have ncp : c ≠ p := fun e => by
            rw [e, upd_same] at hc'
            cases hc'
          have hc2 : H2 c = none := by
            rw [upd_ne ncp] at hc'
            exact hc'
          have ncG : G ≠ c := ne_of_none hGs hc2
          refine ⟨(by show 3 ≤ sizeLine; decide), fun d hd => ?_⟩
          have ndc : d ≠ c := fun e => by
            rw [e, upd_same] at hd
            cases hd
          rw [upd_ne ndc] at hd
          have ndp : d ≠ p := fun e => by
            rw [e, upd_same] at hd
            cases hd
          rw [upd_ne ndp] at hd
          have ndG : G ≠ d := ne_of_none hGs hd
          have s3 : Same H H2 := s1.trans s2
          refine k d G c _ (fun b o e => ?_) (s3.free hd) (s1.free hG) (s3.free hc2) ⟨⟨gs, cs ++ [((cs.length : Nat) : Int) + 3], 0, upd_same, ?_, ?_, ?_, ?_, by decide, by decide⟩, ndG.symm, ndc, ncG⟩
          · have e2 := s3 _ _ e
            rw [upd_ne (ne_of_none e2 hd), upd_ne (ne_of_none e2 hc2), upd_ne (ne_of_none e2 hp)]
            exact e2
          · rw [upd_ne ndG, upd_ne ncG, upd_ne npG]
            exact hGs
          · rw [upd_ne ndc.symm, upd_same, List.map_append, List.length_map]
            rfl
          · rw [List.length_append]
            show 0 < cs.length + 1
            omega
          · rw [List.length_append]
            show cs.length + 1 ≤ 100
            omega
def spNext : Sp := fun vs H Q _ => ∃ (d g c : Addr) (k m : Int), vs = [.ref d, .int m] ∧ 0 < m ∧ m < 1208925819614629174706176 ∧ Dk d g c k H ∧ k ≤ 1000000000 ∧
  ∀ (r : Int) (H' : Hp), 0 ≤ r → r < m → Dk d g c (k + 1) H' → Fr d g H H' → Q (.int r) H'
def lenAt (g : Addr) (H : Hp) : Nat := match H g with
  | some (.lst xs) => xs.length
  | _ => 0
theorem lenAt_of {g : Addr} {H : Hp} {xs : List V} (h : H g = some (.lst xs)) : lenAt g H = xs.length := by
  unfold lenAt
  rw [h]
theorem ok__law_next (T : Tx K mg A) : FnOk P w K mg base CX0 1 A.f__law_next A.d__law_next ["_law_deck_here", "_law_many"] spNext := by
  refine T.d__law_next.F.ok sc__law_next (fun vs H Q E h => ?_) (fun cdv A outer s H vs Q E hr h => ?_)
  · obtain ⟨d, g, c, k, m, rfl, _⟩ := h
    rfl
  · obtain ⟨d, g, c, k, m, rfl, hm, hm2, D0, hk, q⟩ := h
    have hW : m.natAbs < 2 ^ 80 := by
      show m.natAbs < 1208925819614629174706176
      omega
    refine ⟨_, (pss_cons (ps_while PassesOwn.never (pt_cmpR (op_neD hr.units) (pe_ix ix_list (pv 0) pe_int (fun _ _ => rfl)) (pe_lst pa_nil) (nomark _))
        (pss_cons (ps_set (i := 4) sc__law_next.nd rfl (.inl rfl) (pe_ix ix_list (pe_ix ix_list (pv 0) pe_int (fun _ _ => rfl)) pe_int (fun _ _ => rfl)))
        (pss_cons (ps_if (pt_cmpR op_gt (pv 4) pe_int (nomark _))
        (pss_cons (ps_asg (pe_op op_fdivW (pv 4) (pv 1)) (pg_sub (pe_ix ix_list (pv 0) pe_int (fun _ _ => rfl)) pe_int set_list))
        (pss_one (ps_ret (pe_op op_mod (pv 4) (pv 1)))))
        pss_nil)
        (pss_one (ps_expr (pe_bm PySem.F.plainAttrs_list PySem.F.slot_list_pop PySem.F.type_list_pop mt_popAt (pe_ix ix_list (pv 0) pe_int (fun _ _ => rfl)) (pa_cons pe_int pa_nil)))))))
        (pss_cons (ps_asg (pe_op op_add (pe_ix ix_list (pv 0) pe_int (fun _ _ => rfl)) pe_int) (pg_sub (pv 0) pe_int set_list))
        (pss_cons (ps_set (i := 2) sc__law_next.nd rfl (.inl rfl) (pe_op op_mod (pe_ix ix_list (pe_ix ix_list (pv 0) pe_int (fun _ _ => rfl)) (pe_op op_mod (pe_ix ix_list (pv 0) pe_int (fun _ _ => rfl)) (pe_callB call_len_seq (by rfl) T.b_len PySem.boot_len (pa_cons (pe_ix ix_list (pv 0) pe_int (fun _ _ => rfl)) pa_nil))) (fun _ _ => rfl)) pe_int))
        (pss_cons (ps_set (i := 3) sc__law_next.nd rfl (.inl rfl) (pe_op op_add (pe_op op_add (pe_op op_mul (pv 2) (pe_op op_add pe_int (pe_op op_mul pe_int (pe_ix ix_list (pv 0) pe_int (fun _ _ => rfl))))) (pe_op op_mul (pe_op op_mul pe_int (pe_ix ix_list (pv 0) pe_int (fun _ _ => rfl))) (pe_ix ix_list (pv 0) pe_int (fun _ _ => rfl)))) pe_int))
        (pss_cons (ps_set (i := 3) sc__law_next.nd rfl (.inl rfl) (pe_op op_mod (pv 3) pe_int))
        (pss_one (ps_ret (pe_op op_mod (pe_op op_fdivW (pe_op op_mod (pe_op op_mul (pv 3) (pv 3)) pe_int) pe_int) (pv 1))))))))), ?_⟩
    refine while_by (fun σ H' => ∃ v2 v3 v4, σ = [some (.ref d), some (.int m), v2, v3, v4] ∧ Dk d g c k H' ∧ Fr d g H H') (fun _ H' => lenAt g H') ⟨none, none, none, rfl, D0, Fr.refl _ _ _⟩ ?_ ?_
    · rintro σ H1 ⟨v2, v3, v4, rfl, D1, f1⟩
      obtain ⟨gs, cs, n, h1, h2, h3, h4, h5, h6, h7⟩ := D1.ex
      refine ⟨.ref d, rfl, d, _, 0, .ref g, rfl, rfl, SqL.of h1, atI_zero, Nat.zero_le _, fun p hp => ?_⟩
      obtain ⟨npd, npg, npc⟩ := D1.nd hp
      have k1 : upd H1 p (.lst []) d = some (.lst [.ref g, .ref c, .int n]) := by
        rw [upd_ne npd.symm]
        exact h1
      have k2 : upd H1 p (.lst []) g = some (.lst (gs.map V.int)) := by
        rw [upd_ne npg.symm]
        exact h2
      have k3 : upd H1 p (.lst []) c = some (.lst (cs.map V.int)) := by
        rw [upd_ne npc.symm]
        exact h3
      have f2 : Fr d g H (upd H1 p (.lst [])) := f1.trans (.new hp)
      have eL : lenAt g H1 = gs.length := by rw [lenAt_of h2, List.length_map]
      have k4 : upd H1 p (.lst []) p = some (.lst []) := upd_same
      generalize upd H1 p (.lst []) = H2 at k1 k2 k3 k4 f2 ⊢
      refine ⟨.list (gs.map PyData.int), .list ([].map PyData.int), .lst (SqL.of k2) (dp_ints gs), .lst (SqL.of k4) .nil, sh_ints gs, sh_ints [], _, rfl, ?_⟩
      cases gs with
      | cons x r =>
        -- rest = deck[0][0]
        refine ⟨.ref d, rfl, d, _, 0, _, rfl, rfl, SqL.of k1, atI_zero, g, _, 0, _, rfl, rfl, SqL.of k2, atI_zero, ?_⟩
        refine ⟨.int x, rfl, x, 0, rfl, rfl, _, rfl, ite2 (fun _ => ?_) (fun _ => ?_)⟩
        · -- deck[0][0] = rest // many; return rest % many
          refine ⟨.int x, rfl, .int m, rfl, x, m, rfl, rfl, wide_div hm hW (by decide) (by decide), .ref d, rfl, d, _, 0, _, rfl, rfl, SqL.of k1, atI_zero, g, _, 0, 0, rfl, rfl, k2, ixN_zero (by simp), ?_⟩
          refine ⟨.int x, rfl, .int m, rfl, x, m, rfl, rfl, hm, ?_⟩
          refine q _ _ (Int.emod_nonneg _ (by omega)) (Int.emod_lt_of_pos _ hm) ⟨⟨(x / m) :: r, cs, n, ?_, ?_, ?_, h4, h5, h6, by omega⟩, D1.dg, D1.dc, D1.gc⟩ (f2.trans .atg)
          · rw [upd_ne D1.dg]
            exact k1
          · rw [upd_same]
            rfl
          · rw [upd_ne D1.gc.symm]
            exact k3
        · -- deck[0].pop(0)
          refine ⟨.ref d, rfl, d, _, 0, _, rfl, rfl, SqL.of k1, atI_zero, .inl ⟨rfl, _, SqL.of k2⟩, g, _, 0, 0, .int x, rfl, rfl, k2, by decide, by decide, ixN_seq0 (by simp), rfl, ?_⟩
          refine ⟨⟨_, _, _, rfl, ⟨⟨r, cs, n, ?_, ?_, ?_, h4, h5, h6, h7⟩, D1.dg, D1.dc, D1.gc⟩, f2.trans .atg⟩, ?_⟩
          · rw [upd_ne D1.dg]
            exact k1
          · rw [upd_same]
            rfl
          · rw [upd_ne D1.gc.symm]
            exact k3
          · show lenAt g (upd H2 g _) < lenAt g H1
            rw [eL, lenAt_of upd_same]
            show (r.map V.int).length < r.length + 1
            rw [List.length_map]
            omega
      | nil =>
        -- deck[2] = deck[2] + 1
        refine ⟨.ref d, rfl, d, _, 2, _, rfl, rfl, SqL.of k1, atI_nat (j := 2) rfl, n, 1, rfl, rfl, .ref d, rfl, d, _, 2, 2, rfl, rfl, k1, rfl, ?_⟩
        have j1 : upd H2 d (.lst ([V.ref g, V.ref c, V.int n].set 2 (V.int (n + 1)))) d = some (.lst [.ref g, .ref c, .int (n + 1)]) := upd_same
        have j2 : upd H2 d (.lst ([V.ref g, V.ref c, V.int n].set 2 (V.int (n + 1)))) g = some (.lst []) := by
          rw [upd_ne D1.dg.symm]
          exact k2
        have j3 : upd H2 d (.lst ([V.ref g, V.ref c, V.int n].set 2 (V.int (n + 1)))) c = some (.lst (cs.map V.int)) := by
          rw [upd_ne D1.dc.symm]
          exact k3
        have f3 : Fr d g H (upd H2 d (.lst ([V.ref g, V.ref c, V.int n].set 2 (V.int (n + 1))))) := f2.trans .atd
        generalize upd H2 d (.lst ([V.ref g, V.ref c, V.int n].set 2 (V.int (n + 1)))) = H3 at j1 j2 j3 f3 ⊢
        have hl : (0 : Int) < (cs.map V.int).length := by
          rw [List.length_map]
          omega
        obtain ⟨v, hv⟩ := ints_at (cs := cs) (i := (n + 1) % ((cs.map V.int).length : Int)) (Int.emod_nonneg _ (by omega)) (by
          have z := Int.emod_lt_of_pos (n + 1) hl
          rw [List.length_map] at z ⊢
          exact z)
        -- the cell
        refine ⟨.ref d, rfl, d, _, 1, _, rfl, rfl, SqL.of j1, atI_nat (j := 1) rfl, .ref d, rfl, d, _, 2, _, rfl, rfl, SqL.of j1, atI_nat (j := 2) rfl, .ref d, rfl, d, _, 1, _, rfl, rfl, SqL.of j1, atI_nat (j := 1) rfl, c, _, rfl, .inl (SqL.of j3), n + 1, _, rfl, rfl, hl, c, _, _, .int v, rfl, rfl, SqL.of j3, hv, v, 2147483647, rfl, rfl, (by show (0 : Int) < 2147483647; decide), ?_⟩
        have q0 : 0 ≤ v % 2147483647 := Int.emod_nonneg _ (by decide)
        have q1 : v % 2147483647 < 2147483647 := Int.emod_lt_of_pos _ (by decide)
        refine ⟨.int (v % 2147483647), rfl, .ref d, rfl, d, _, 2, _, rfl, rfl, SqL.of j1, atI_nat (j := 2) rfl, 69621, n + 1, rfl, rfl, .inl ⟨by decide, by decide⟩, 48271, _, rfl, rfl, v % 2147483647, _, rfl, rfl, .inl ⟨by omega, by omega⟩,
          .ref d, rfl, d, _, 2, _, rfl, rfl, SqL.of j1, atI_nat (j := 2) rfl, 40692, n + 1, rfl, rfl, .inl ⟨by decide, by decide⟩, .ref d, rfl, d, _, 2, _, rfl, rfl, SqL.of j1, atI_nat (j := 2) rfl, _, n + 1, rfl, rfl, .inr ⟨by omega, by omega⟩, _, _, rfl, rfl, _, 11, rfl, rfl, ?_⟩
        refine ⟨_, rfl, _, 2147483629, rfl, rfl, (by show (0 : Int) < 2147483629; decide), ?_⟩
        refine ⟨_, rfl, _, rfl, _, _, rfl, rfl, .inl (mod_in (by decide) (by decide)), _, 2147483587, rfl, rfl, (by show (0 : Int) < 2147483587; decide), _, 16, rfl, rfl, wide_div (b := 5) (by decide) (by decide) (by decide) (by decide), .int m, rfl, _, m, rfl, rfl, hm, ?_⟩
        exact q _ _ (Int.emod_nonneg _ (by omega)) (Int.emod_lt_of_pos _ hm) ⟨⟨[], cs, n + 1, j1, j2, j3, h4, h5, by omega, by omega⟩, D1.dg, D1.dc, D1.gc⟩ f3
    · rintro σ H1 Q1 Q2 hq ⟨v, e, p, xs, i, v', e1, e2, hs, ha, hz, f⟩
      refine ⟨v, e, p, xs, i, v', e1, e2, hs, ha, hz, fun r hr => ?_⟩
      obtain ⟨d1, d2, a1, a2, a3, a4, kk, ek, qk⟩ := f r hr
      exact ⟨d1, d2, a1, a2, a3, a4, kk, ek, hq _ _ qk⟩
/-! ### the program -/
def spWhole : Sp := fun vs H Q _ => ∃ (x : V) (d : PyData), vs = [x] ∧ Dq H x d ∧ Q (.bl (isInt d)) H
theorem ok_is_whole (T : Tx K mg A) : FnOk P w K mg base CX0 1 A.f_is_whole A.d_is_whole ["thing"] spWhole := by
  refine T.d_is_whole.F.ok sc_is_whole (fun vs H Q E h => ?_) (fun cdv A outer s H vs Q E hr h => ?_)
  · obtain ⟨x, t, rfl, _⟩ := h
    rfl
  · obtain ⟨x, o, rfl, th, q⟩ := h
    obtain ⟨t, ⟨ty, ht⟩, e, _⟩ := th.ty (K := K)
    rw [← e] at q
    refine ⟨_, (pss_one (ps_ret (pe_and (pe_callB call_isi (by rfl) T.b_isinstance PyProof.Rows.boot_isinstance (pa_cons (pv 0) (pa_cons (pe_bltn (v := .ty "int") (by rfl) T.b_int PyProof.Rows.boot_int rfl) pa_nil))) (pe_one (pe_not (pe_callB call_isi (by rfl) T.b_isinstance PyProof.Rows.boot_isinstance (pa_cons (pv 0) (pa_cons (pe_bltn (v := .ty "bool") (by rfl) T.b_bool PyProof.Rows.boot_bool rfl) pa_nil)))))))), ?_⟩
    refine ⟨x, rfl, x, _, _, _, _, rfl, .ty "int", ty, isi_of "int" ht (.inl rfl), _, rfl, ite2 (fun e => ?_) (fun e => ?_)⟩
    · refine ⟨x, rfl, x, _, _, _, _, rfl, .ty "bool", ty, isi_of "bool" ht (.inr (.inl rfl)), _, rfl, ?_⟩
      rw [e] at q
      exact q
    · have e2 : isB t "int" = false := Bool.eq_false_iff.mpr e
      rw [e2] at q
      exact q
def spNum : Sp := fun vs H Q _ => ∃ (p : Int) (x : V) (d : PyData), vs = [.int p, x] ∧ Dq H x d ∧ Q (.bl (isNumD p d)) H
theorem ok_is_round (T : Tx K mg A) : FnOk P w K mg base CX0 2 A.f_is_round A.d_is_round ["p", "thing"] spNum := by
  have G_is_whole : FnOk P w K mg base CX0 1 A.f_is_whole A.d_is_whole ["thing"] spWhole := ok_is_whole T
  refine T.d_is_round.F.ok sc_is_round (fun vs H Q E h => ?_) (fun cdv A outer s H vs Q E hr h => ?_)
  · obtain ⟨p, x, t, rfl, _⟩ := h
    rfl
  · obtain ⟨p, x, d, rfl, th, q⟩ := h
    refine ⟨_, (pss_one (ps_ret (pe_and (pe_call G_is_whole hr (by rfl) T.d_is_whole.g T.d_is_whole.F.kp T.d_is_whole.b .nil pass0 (pa_cons (pv 1) pa_nil)) (pe_one (pe_chain op_le op_lt pe_int (pv 1) (pv 0)))))), ?_⟩
    refine ⟨x, rfl, x, d, rfl, th, _, rfl, ite2 (fun e => ?_) (fun e => ?_)⟩
    · obtain ⟨i, rfl, rfl⟩ := isInt_of th e
      refine ⟨.int i, rfl, 0, i, rfl, rfl, _, rfl, ite2 (fun e => ?_) (fun e => ?_)⟩
      · refine ⟨.int p, rfl, i, p, rfl, rfl, ?_⟩
        have q' : Q (.bl (decide (0 ≤ i) && decide (i < p))) H := q
        rw [e] at q'
        exact q'
      · have q' : Q (.bl (decide (0 ≤ i) && decide (i < p))) H := q
        rw [Bool.eq_false_iff.mpr e] at q'
        exact q'
    · rw [num_false (Bool.eq_false_iff.mpr e)] at q
      exact q
def spPair : Sp := fun vs H Q _ => ∃ (p : Int) (x : V) (d : PyData), vs = [.int p, x] ∧ Dq H x d ∧ Q (.bl (isPairD p d)) H
theorem ok_is_pair (T : Tx K mg A) : FnOk P w K mg base CX0 3 A.f_is_pair A.d_is_pair ["p", "thing"] spPair := by
  have G_is_round : FnOk P w K mg base CX0 2 A.f_is_round A.d_is_round ["p", "thing"] spNum := ok_is_round T
  refine T.d_is_pair.F.ok sc_is_pair (fun vs H Q E h => ?_) (fun cdv A outer s H vs Q E hr h => ?_)
  · obtain ⟨p, x, t, rfl, _⟩ := h
    rfl
  · obtain ⟨p, x, d, rfl, th, q⟩ := h
    obtain ⟨t, ⟨ty, ht⟩, _, et⟩ := th.ty (K := K)
    refine ⟨_, (pss_one (ps_ret (pe_and (pe_callB call_isi (by rfl) T.b_isinstance PyProof.Rows.boot_isinstance (pa_cons (pv 1) (pa_cons (pe_bltn (v := .ty "tuple") (by rfl) T.b_tuple PyProof.Rows.boot_tuple rfl) pa_nil))) (pe_and (pe_cmpR op_eq (pe_callB call_len_seq (by rfl) T.b_len PySem.boot_len (pa_cons (pv 1) pa_nil)) pe_int (nomark _)) (pe_and (pe_call G_is_round hr (by rfl) T.d_is_round.g T.d_is_round.F.kp T.d_is_round.b .nil pass0 (pa_cons (pv 0) (pa_cons (pe_ix ix_tup (pv 1) pe_int (fun _ _ => rfl)) pa_nil))) (pe_one (pe_call G_is_round hr (by rfl) T.d_is_round.g T.d_is_round.F.kp T.d_is_round.b .nil pass0 (pa_cons (pv 0) (pa_cons (pe_ix ix_tup (pv 1) pe_int (fun _ _ => rfl)) pa_nil))))))))), ?_⟩
    refine ⟨x, rfl, x, _, _, _, _, rfl, .ty "tuple", ty, isi_of "tuple" ht (by simp), _, rfl, ite2 (fun e => ?_) (fun e => ?_)⟩
    · rw [et] at e
      obtain ⟨a, xs, ds, rfl, ha, hds, rfl⟩ := isTup_of th e
      refine ⟨.ref a, rfl, a, xs, rfl, .inr (SqT.of ha), rfl, _, rfl, ite2 (fun e => ?_) (fun e => ?_)⟩
      · have e2 : (ds.length : Int) = 2 := by
          rw [← hds.length]
          exact V.int.inj (of_decide_eq_true e)
        obtain ⟨x, y, rfl⟩ := two_of e2
        cases hds with
        | cons h1 k1 =>
          cases k1 with
          | cons h2 k2 =>
            cases k2
            refine ⟨.int p, rfl, .ref a, rfl, a, _, 0, _, rfl, rfl, SqT.of ha, atI_zero, p, _, _, rfl, h1, _, rfl, ite2 (fun e => ?_) (fun e => ?_)⟩
            · refine ⟨.int p, rfl, .ref a, rfl, a, _, 1, _, rfl, rfl, SqT.of ha, atI_nat (j := 1) rfl, p, _, _, rfl, h2, ?_⟩
              have q' : Q (.bl (isNumD p x && isNumD p y)) H := q
              rw [e] at q'
              exact q'
            · have q' : Q (.bl (isNumD p x && isNumD p y)) H := q
              rw [Bool.eq_false_iff.mpr e] at q'
              exact q'
      · have e2 : ¬ ((ds.length : Int) = 2) := fun z => e (decide_eq_true (by rw [hds.length, z]))
        rw [pair_len e2] at q
        exact q
    · rw [et] at e
      rw [pair_false (Bool.eq_false_iff.mpr e)] at q
      exact q
def spRow : Sp := fun vs H Q _ => ∃ (p n : Int) (x : V) (d : PyData), vs = [.int p, .int n, x] ∧ Dq H x d ∧ (∀ ds, d = .tuple ds → ds.length ≤ 100000) ∧ ∀ H', Same H H' → Q (.bl (isRowD p n d)) H'
theorem ok_is_row (T : Tx K mg A) : FnOk P w K mg base CX0 4 A.f_is_row A.d_is_row ["p", "posts", "thing"] spRow := by
  have G_is_pair : FnOk P w K mg base CX0 3 A.f_is_pair A.d_is_pair ["p", "thing"] spPair := ok_is_pair T
  refine T.d_is_row.F.ok sc_is_row (fun vs H Q E h => ?_) (fun cdv A outer s H vs Q E hr h => ?_)
  · obtain ⟨p, n, x, t, rfl, _⟩ := h
    rfl
  · obtain ⟨p, n, x, d, rfl, th, hl, q⟩ := h
    obtain ⟨t, ⟨ty, ht⟩, _, et⟩ := th.ty (K := K)
    refine ⟨_, (pss_one (ps_ret (pe_and (pe_callB call_isi (by rfl) T.b_isinstance PyProof.Rows.boot_isinstance (pa_cons (pv 2) (pa_cons (pe_bltn (v := .ty "tuple") (by rfl) T.b_tuple PyProof.Rows.boot_tuple rfl) pa_nil))) (pe_and (pe_cmpR op_eq (pe_callB call_len_seq (by rfl) T.b_len PySem.boot_len (pa_cons (pv 2) pa_nil)) (pv 1) (nomark _)) (pe_one (pe_callB (cr_all rfl) (by rfl) T.b_all PyProof.Rows.boot_all (pa_cons (pe_lc (own := [("pair", 3)]) rfl sc_is_row.nd (pi_tup (pv 2)) (blkOk_by (N := N_is_row) (sc := defScope s_is_row) (by decide +kernel)) (fun _ _ _ _ _ => (pg_name (i := 3) sc_is_row.nd rfl (.inl rfl))) (fun _ _ _ _ _ => pts_nil) (fun _ _ _ _ _ => (pe_call G_is_pair hr (by rfl) T.d_is_pair.g T.d_is_pair.F.kp T.d_is_pair.b .nil pass0 (pa_cons (pv 0) (pa_cons (pv 3) pa_nil))))) pa_nil))))))), ?_⟩
    refine ⟨x, rfl, x, _, _, _, _, rfl, .ty "tuple", ty, isi_of "tuple" ht (by simp), _, rfl, ite2 (fun e => ?_) (fun e => ?_)⟩
    · rw [et] at e
      obtain ⟨a, xs, ds, rfl, ha, hds, rfl⟩ := isTup_of th e
      have hl' := hl ds rfl
      have hxl := hds.length
      refine ⟨.ref a, rfl, a, xs, rfl, .inr (SqT.of ha), .int n, rfl, rfl, _, rfl, ite2 (fun e => ?_) (fun e => ?_)⟩
      · have e2 : (ds.length : Int) = n := by
          rw [← hds.length]
          exact V.int.inj (of_decide_eq_true e)
        refine ⟨.ref a, rfl, a, rfl, ⟨_, SqT.of ha⟩, fun D hD => lc_tup (xs := xs) (fun i H' => Same H H' ∧ H' D = some (.lst (((ds.take i).map (isPairD p)).map V.bl))) ⟨same_upd hD, upd_same⟩ (fun i H' _ h => .inl (.inl (h.1 _ _ ha))) ?_ ?_⟩
        · rintro i y H' hi ⟨s1, hDs⟩
          obtain ⟨dy, ey, hy⟩ := hds.get hi
          refine ⟨rfl, .int p, rfl, y, rfl, p, y, dy, rfl, hy.same s1, _, hDs, ?_, fun b o e => ?_, ?_⟩
          · rw [List.length_map, List.length_map, List.length_take]
            have e : sizeLine = 16777216 := by decide
            omega
          · rw [upd_ne (ne_of_none e hD)]
            exact s1 _ _ e
          · rw [upd_same, List.take_add_one, ey, List.map_append, List.map_append]
            rfl
        · rintro H' ⟨s1, hDs⟩
          refine ⟨D, _, rfl, SqL.of hDs, ?_⟩
          have e3 : ((ds.take xs.length).map (isPairD p)).all id = ds.all (isPairD p) := by
            rw [hxl, List.take_length, List.all_map]
            rfl
          have e4 : isRowD p n (.tuple ds) = ds.all (isPairD p) := by
            show (decide ((ds.length : Int) = n) && ds.all (isPairD p)) = _
            rw [decide_eq_true e2]
            rfl
          have q' := q H' s1
          rw [e4, ← e3] at q'
          exact q'
      · have e2 : ¬ ((ds.length : Int) = n) := fun z => e (decide_eq_true (by rw [hds.length, z]))
        have e4 : isRowD p n (.tuple ds) = false := by
          show (decide ((ds.length : Int) = n) && ds.all (isPairD p)) = _
          rw [decide_eq_false e2]
          rfl
        have q' := q H (Same.refl _)
        rw [e4] at q'
        exact q'
    · rw [et] at e
      have q' := q H (Same.refl _)
      rw [row_false (Bool.eq_false_iff.mpr e)] at q'
      exact q'
/-! ### the law's own looks -/
theorem ok__law_is_number (T : Tx K mg A) : FnOk P w K mg base CX0 1 A.f__law_is_number A.d__law_is_number ["_law_p", "_law_thing"] spNum := by
  refine T.d__law_is_number.F.ok sc__law_is_number (fun vs H Q E h => ?_) (fun cdv A outer s H vs Q E hr h => ?_)
  · obtain ⟨p, x, t, rfl, _⟩ := h
    rfl
  · obtain ⟨p, x, d, rfl, th, q⟩ := h
    obtain ⟨t, ⟨ty, ht⟩, et, _⟩ := th.ty (K := K)
    refine ⟨_, (pss_one (ps_ret (pe_and (pe_callB call_isi (by rfl) T.b_isinstance PyProof.Rows.boot_isinstance (pa_cons (pv 1) (pa_cons (pe_bltn (v := .ty "int") (by rfl) T.b_int PyProof.Rows.boot_int rfl) pa_nil))) (pe_and (pe_not (pe_callB call_isi (by rfl) T.b_isinstance PyProof.Rows.boot_isinstance (pa_cons (pv 1) (pa_cons (pe_bltn (v := .ty "bool") (by rfl) T.b_bool PyProof.Rows.boot_bool rfl) pa_nil)))) (pe_one (pe_chain op_le op_lt pe_int (pv 1) (pv 0))))))), ?_⟩
    refine ⟨x, rfl, x, _, _, _, _, rfl, .ty "int", ty, isi_of "int" ht (.inl rfl), _, rfl, ite2 (fun e => ?_) (fun e => ?_)⟩
    · rw [e] at et
      refine ⟨x, rfl, x, _, _, _, _, rfl, .ty "bool", ty, isi_of "bool" ht (.inr (.inl rfl)), _, rfl, _, rfl, ite2 (fun e => ?_) (fun e => ?_)⟩
      · rw [e] at et
        obtain ⟨i, rfl, rfl⟩ := isInt_of th et.symm
        refine ⟨.int i, rfl, 0, i, rfl, rfl, _, rfl, ite2 (fun e => ?_) (fun e => ?_)⟩
        · refine ⟨.int p, rfl, i, p, rfl, rfl, ?_⟩
          have q' : Q (.bl (decide (0 ≤ i) && decide (i < p))) H := q
          rw [e] at q'
          exact q'
        · have q' : Q (.bl (decide (0 ≤ i) && decide (i < p))) H := q
          rw [Bool.eq_false_iff.mpr e] at q'
          exact q'
      · rw [Bool.eq_false_iff.mpr e] at et
        rw [num_false et.symm] at q
        exact q
    · rw [Bool.eq_false_iff.mpr e] at et
      rw [num_false et.symm] at q
      exact q
def spRowL : Sp := fun vs H Q _ => ∃ (p n : Int) (x : V) (d : PyData), vs = [.int p, .int n, x] ∧ Dq H x d ∧ Q (.bl (isRowD p n d)) H
theorem ok__law_is_row (T : Tx K mg A) : FnOk P w K mg base CX0 2 A.f__law_is_row A.d__law_is_row ["_law_p", "_law_posts", "_law_thing"] spRowL := by
  have G__law_is_number : FnOk P w K mg base CX0 1 A.f__law_is_number A.d__law_is_number ["_law_p", "_law_thing"] spNum := ok__law_is_number T
  refine T.d__law_is_row.F.ok sc__law_is_row (fun vs H Q E h => ?_) (fun cdv A outer s H vs Q E hr h => ?_)
  · obtain ⟨p, n, x, t, rfl, _⟩ := h
    rfl
  · obtain ⟨p, n, x, d, rfl, th, q⟩ := h
    obtain ⟨t, ⟨ty, ht⟩, _, et⟩ := th.ty (K := K)
    refine ⟨_, (pss_cons (ps_if (PW.pt (pw_or (pt_not (pt_val (pe_callB call_isi (by rfl) T.b_isinstance PyProof.Rows.boot_isinstance (pa_cons (pv 2) (pa_cons (pe_bltn (v := .ty "tuple") (by rfl) T.b_tuple PyProof.Rows.boot_tuple rfl) pa_nil))))) (pw_or1 (pt_cmpR op_ne (pe_callB call_len_seq (by rfl) T.b_len PySem.boot_len (pa_cons (pv 2) pa_nil)) (pv 1) (nomark _)))))
        (pss_one (ps_ret pe_bl))
        pss_nil)
        (pss_cons (ps_for PassesOwn.never rfl (pi_tup (pv 2)) (pg_name (i := 3) sc__law_is_row.nd rfl (.inl rfl))
        (pss_cons (ps_if (PW.pt (pw_or (pt_not (pt_val (pe_callB call_isi (by rfl) T.b_isinstance PyProof.Rows.boot_isinstance (pa_cons (pv 3) (pa_cons (pe_bltn (v := .ty "tuple") (by rfl) T.b_tuple PyProof.Rows.boot_tuple rfl) pa_nil))))) (pw_or1 (pt_cmpR op_ne (pe_callB call_len_seq (by rfl) T.b_len PySem.boot_len (pa_cons (pv 3) pa_nil)) pe_int (nomark _)))))
        (pss_one (ps_ret pe_bl))
        pss_nil)
        (pss_one (ps_if (PW.pt (pw_or (pt_not (pt_val (pe_call G__law_is_number hr (by rfl) T.d__law_is_number.g T.d__law_is_number.F.kp T.d__law_is_number.b .nil pass0 (pa_cons (pv 0) (pa_cons (pe_ix ix_tup (pv 3) pe_int (fun _ _ => rfl)) pa_nil))))) (pw_or1 (pt_not (pt_val (pe_call G__law_is_number hr (by rfl) T.d__law_is_number.g T.d__law_is_number.F.kp T.d__law_is_number.b .nil pass0 (pa_cons (pv 0) (pa_cons (pe_ix ix_tup (pv 3) pe_int (fun _ _ => rfl)) pa_nil))))))))
        (pss_one (ps_ret pe_bl))
        pss_nil))))
        (pss_one (ps_ret pe_bl)))), ?_⟩
    refine ⟨x, rfl, x, _, _, _, _, rfl, .ty "tuple", ty, isi_of "tuple" ht (by simp), _, rfl, ite2 (fun e => ?_) (fun e => ?_)⟩
    · have e1 : isTup d = false := by
        rw [← et]
        simpa using e
      rw [row_false e1] at q
      exact q
    · have e1 : isTup d = true := by
        rw [← et]
        simpa using e
      obtain ⟨a, xs, ds, rfl, ha, hds, rfl⟩ := isTup_of th e1
      have hxl := hds.length
      refine ⟨.ref a, rfl, a, xs, rfl, .inr (SqT.of ha), .int n, rfl, rfl, _, rfl, ite2 (fun e => ?_) (fun e => ?_)⟩
      · have e2 : ¬ ((ds.length : Int) = n) := fun z => by
          have z2 : V.int (xs.length : Nat) = V.int n := by rw [hxl, z]
          rw [decide_eq_true z2] at e
          cases e
        have e4 : isRowD p n (.tuple ds) = false := by
          show (decide ((ds.length : Int) = n) && ds.all (isPairD p)) = _
          rw [decide_eq_false e2]
          rfl
        rw [e4] at q
        exact q
      · have e2 : (ds.length : Int) = n := by
          have z2 : V.int (xs.length : Nat) = V.int n := by simpa using e
          rw [← hxl]
          exact V.int.inj z2
        have e4 : isRowD p n (.tuple ds) = ds.all (isPairD p) := by
          show (decide ((ds.length : Int) = n) && ds.all (isPairD p)) = _
          rw [decide_eq_true e2]
          rfl
        rw [e4] at q
        refine ⟨.ref a, rfl, a, rfl, ⟨_, SqT.of ha⟩, for_tup (xs := xs) (fun i σ H' => ∃ v, σ = [some (.int p), some (.int n), some (.ref a), v] ∧ H' = H ∧ (ds.take i).all (isPairD p) = true) ⟨none, rfl, rfl, rfl⟩ (fun i σ H' _ h => by obtain ⟨_, _, rfl, _⟩ := h; exact SqT.of ha) ?_ ?_⟩
        · rintro i y σ H' hi ⟨v, rfl, rfl, hall⟩
          obtain ⟨dy, ey, hy⟩ := hds.get hi
          have bad : isPairD p dy = false → ds.all (isPairD p) = false := fun z => by
            rw [Bool.eq_false_iff]
            intro all
            have z2 := List.all_eq_true.mp all dy (List.mem_of_getElem? ey)
            rw [z] at z2
            cases z2
          have good : isPairD p dy = true → (ds.take (i + 1)).all (isPairD p) = true := fun z => by
            rw [List.take_add_one, ey, List.all_append, hall]
            show (true && (isPairD p dy && true)) = true
            rw [z]
            rfl
          obtain ⟨t2, ⟨ty2, ht2⟩, _, et2⟩ := hy.ty (K := K)
          refine ⟨y, rfl, y, _, _, _, _, rfl, .ty "tuple", ty2, isi_of "tuple" ht2 (by simp), _, rfl, ite2 (fun e => ?_) (fun e => ?_)⟩
          · have e1 : isTup dy = false := by
              rw [← et2]
              simpa using e
            rw [bad (pair_false e1)] at q
            exact q
          · have e1 : isTup dy = true := by
              rw [← et2]
              simpa using e
            obtain ⟨b, zs, es, rfl, hb, hes, rfl⟩ := isTup_of hy e1
            have hzl := hes.length
            refine ⟨.ref b, rfl, b, zs, rfl, .inr (SqT.of hb), rfl, _, rfl, ite2 (fun e => ?_) (fun e => ?_)⟩
            · have e2 : ¬ ((es.length : Int) = 2) := fun z => by
                have z2 : V.int (zs.length : Nat) = V.int 2 := by rw [hzl, z]
                rw [decide_eq_true z2] at e
                cases e
              rw [bad (pair_len e2)] at q
              exact q
            · have e2 : (es.length : Int) = 2 := by
                have z2 : V.int (zs.length : Nat) = V.int 2 := by simpa using e
                rw [← hzl]
                exact V.int.inj z2
              obtain ⟨u1, u2, rfl⟩ := two_of e2
              cases hes with
              | cons h1 k1 =>
                cases k1 with
                | cons h2 k2 =>
                  cases k2
                  refine ⟨.int p, rfl, .ref b, rfl, b, _, 0, _, rfl, rfl, SqT.of hb, atI_zero, p, _, _, rfl, h1, _, rfl, ite2 (fun e => ?_) (fun e => ?_)⟩
                  · have e3 : isNumD p u1 = false := by simpa using e
                    rw [bad (by show (isNumD p u1 && isNumD p u2) = false; rw [e3]; rfl)] at q
                    exact q
                  · have e3 : isNumD p u1 = true := by simpa using e
                    refine ⟨.int p, rfl, .ref b, rfl, b, _, 1, _, rfl, rfl, SqT.of hb, atI_nat (j := 1) rfl, p, _, _, rfl, h2, _, rfl, ite2 (fun e => ?_) (fun e => ?_)⟩
                    · have e5 : isNumD p u2 = false := by simpa using e
                      rw [bad (by show (isNumD p u1 && isNumD p u2) = false; rw [e3, e5]; rfl)] at q
                      exact q
                    · have e5 : isNumD p u2 = true := by simpa using e
                      exact ⟨_, rfl, rfl, good (by show (isNumD p u1 && isNumD p u2) = true; rw [e3, e5]; rfl)⟩
        · rintro σ H' ⟨v, rfl, rfl, hall⟩
          rw [hxl, List.take_length] at hall
          rw [hall] at q
          exact q
/-! ### what is drawn -/
def spPrm : Sp := fun vs H Q _ => ∃ (d g c : Addr) (k : Int), vs = [.ref d] ∧ Dk d g c k H ∧ k ≤ 1000000 ∧
  ∀ (p : Int) (H' : Hp), p ∈ prs → Dk d g c (k + 1) H' → Fr d g H H' → Q (.int p) H'
theorem ok__law_prime (T : Tx K mg A) : FnOk P w K mg base CX0 2 A.f__law_prime A.d__law_prime ["_law_deck_here"] spPrm := by
  have G__law_next : FnOk P w K mg base CX0 1 A.f__law_next A.d__law_next ["_law_deck_here", "_law_many"] spNext := ok__law_next T
  refine T.d__law_prime.F.ok sc__law_prime (fun vs H Q E h => ?_) (fun cdv A outer s H vs Q E hr h => ?_)
  · obtain ⟨d, g, c, k, rfl, _⟩ := h
    rfl
  · obtain ⟨d, g, c, k, rfl, D0, hk, q⟩ := h
    refine ⟨_, (pss_one (ps_ret (pe_ix ix_tup (pe_tup (pa_cons pe_int (pa_cons pe_int (pa_cons pe_int (pa_cons pe_int (pa_cons pe_int (pa_cons pe_int pa_nil))))))) (pe_call G__law_next hr (by rfl) T.d__law_next.g T.d__law_next.F.kp T.d__law_next.b .nil pass0 (pa_cons (pv 0) (pa_cons pe_int pa_nil))) (fun _ _ => rfl)))), ?_⟩
    refine ⟨(by show 6 ≤ sizeLine; decide), fun t ht => ?_⟩
    have nt := D0.nd ht
    refine ⟨.ref d, rfl, d, g, c, k, 6, rfl, by decide, by decide, D0.same (same_upd ht), by omega, fun r H1 r0 r1 D1 f1 => ?_⟩
    obtain ⟨v, hv, ev⟩ := ints_mem (cs := prs) r0 r1
    exact ⟨t, _, r, .int v, rfl, rfl, SqT.of (f1 t _ nt.1 nt.2.1 upd_same), ev, q v H1 hv D1 ((Fr.new ht).trans f1)⟩
def spNums : Sp := fun vs H Q _ => ∃ (d g c : Addr) (k p m : Int), vs = [.ref d, .int p, .int m] ∧ Dk d g c k H ∧ k ≤ 1000000 ∧ 2 ≤ p ∧ p ≤ 13 ∧ 0 ≤ m ∧ m ≤ 100 ∧
  ∀ (t : Addr) (ns : List Int) (H' : Hp), (∀ n ∈ ns, 0 ≤ n ∧ n < p) → ns.length = m.toNat → H' t = some (.tup (ns.map V.int)) → Dk d g c (k + 2 * m) H' → Fr d g H H' → Q (.ref t) H'
theorem ok__law_numbers (T : Tx K mg A) : FnOk P w K mg base CX0 2 A.f__law_numbers A.d__law_numbers ["_law_deck_here", "_law_p", "_law_many"] spNums := by
  have G__law_next : FnOk P w K mg base CX0 1 A.f__law_next A.d__law_next ["_law_deck_here", "_law_many"] spNext := ok__law_next T
  refine T.d__law_numbers.F.ok sc__law_numbers (fun vs H Q E h => ?_) (fun cdv A outer s H vs Q E hr h => ?_)
  · obtain ⟨d, g, c, k, p, m, rfl, _⟩ := h
    rfl
  · obtain ⟨d, g, c, k, p, m, rfl, D0, hk, p2, p13, m0, m1, q⟩ := h
    refine ⟨_, (pss_one (ps_ret (pe_callTy call_tuple_of (by rfl) T.b_tuple PyProof.Rows.boot_tuple (pa_cons (pe_lc (own := [("_law_k", 3)]) rfl sc__law_numbers.nd (pi_range1 (by rfl) T.b_range (pa_cons (pv 2) pa_nil)) (blkOk_by (N := N__law_numbers) (sc := defScope s__law_numbers) (by decide +kernel)) (fun _ _ _ _ _ => (pg_name (i := 3) sc__law_numbers.nd rfl (.inl rfl))) (fun _ _ _ _ _ => pts_nil) (fun _ _ _ _ _ => (pe_op op_mul (pe_call G__law_next hr (by rfl) T.d__law_next.g T.d__law_next.F.kp T.d__law_next.b .nil pass0 (pa_cons (pv 0) (pa_cons (pv 1) pa_nil))) (pe_callTy call_int1 (by rfl) T.b_int PyProof.Rows.boot_int (pa_cons (pe_cmpR op_gt (pe_call G__law_next hr (by rfl) T.d__law_next.g T.d__law_next.F.kp T.d__law_next.b .nil pass0 (pa_cons (pv 0) (pa_cons pe_int pa_nil))) pe_int (nomark _)) pa_nil))))) pa_nil)))), ?_⟩
    refine ⟨.int m, rfl, m, rfl, by omega, by omega, fun L hL => lc_range (fun i H' => Dk d g c (k + 2 * i) H' ∧ Fr d g H H' ∧ ∃ ns : List Int, (∀ n ∈ ns, 0 ≤ n ∧ n < p) ∧ ns.length = i ∧ H' L = some (.lst (ns.map V.int))) ⟨(D0.same (same_upd hL)).mono (by omega), .new hL, [], by simp, rfl, upd_same⟩ ?_ ?_⟩
    · rintro i H1 hi ⟨D1, f1, ns, hns, hlen, eL⟩
      have nL := D0.nd hL
      refine ⟨rfl, .ref d, rfl, .int p, rfl, d, g, c, _, p, rfl, by omega, by omega, D1, by omega, fun r H2 r0 r1 D2 f2 => ?_⟩
      refine ⟨.ref d, rfl, d, g, c, _, 4, rfl, by decide, by decide, D2, by omega, fun r2 H3 _ _ D3 f3 => ?_⟩
      have eL3 := f3 L _ nL.1 nL.2.1 (f2 L _ nL.1 nL.2.1 eL)
      refine ⟨r2, 0, rfl, rfl, .inr ⟨_, rfl, r, _, rfl, rfl, .inl ⟨by omega, by omega⟩, _, eL3, by rw [List.length_map]; exact small1000 (by omega), ?_⟩⟩
      have hz : ∀ b : Bool, 0 ≤ r * (if b = true then 1 else 0) ∧ r * (if b = true then 1 else 0) < p := by
        intro b
        cases b with
        | true => simp; omega
        | false => simp; omega
      have zL : Dk d g c (k + 2 * (i + 1 : Nat)) (upd H3 L (.lst (ns.map V.int ++ [V.int (r * (if decide (0 < r2) = true then 1 else 0))]))) := by
        obtain ⟨gs, cs, n, h1, h2, h3, h4, h5, h6, h7⟩ := D3.ex
        exact ⟨⟨gs, cs, n, by rw [upd_ne nL.1.symm]; exact h1, by rw [upd_ne nL.2.1.symm]; exact h2, by rw [upd_ne nL.2.2.symm]; exact h3, h4, h5, h6, by omega⟩, D3.dg, D3.dc, D3.gc⟩
      refine ⟨zL, fun b o e1 e2 e => ?_, ns ++ [r * (if decide (0 < r2) = true then 1 else 0)], ?_, by rw [List.length_append, hlen]; rfl, by rw [upd_same, List.map_append]; rfl⟩
      · rw [upd_ne (ne_of_none e hL)]
        exact f3 _ _ e1 e2 (f2 _ _ e1 e2 (f1 _ _ e1 e2 e))
      · intro n hn
        rcases List.mem_append.mp hn with hn | hn
        · exact hns n hn
        · rw [List.mem_singleton.mp hn]
          exact hz _
    · rintro H1 ⟨D1, f1, ns, hns, hlen, eL⟩
      refine ⟨L, _, rfl, .inl ⟨SqL.of eL, fun t ht => ?_⟩⟩
      exact q t ns _ hns hlen upd_same ((D1.same (same_upd ht)).mono (by omega)) (f1.trans (.new ht))
def spDrawn : Sp := fun vs H Q _ => ∃ (d g c : Addr) (k p m : Int), vs = [.ref d, .int p, .int m] ∧ Dk d g c k H ∧ k ≤ 100000 ∧ 2 ≤ p ∧ p ≤ 13 ∧ 0 ≤ m ∧ m ≤ 20 ∧
  ∀ (t : Addr) (xs : List V) (ds : List PyData) (H' : Hp), DqAll (cut d g H') xs ds → GdAll (13 * m.toNat) 1 ds → ds.all (isPairD p) = true → ds.length = m.toNat → H' t = some (.tup xs) → t ≠ d → t ≠ g → Dk d g c (k + 4 * m) H' → Fr d g H H' → Q (.ref t) H'
theorem ok__law_row (T : Tx K mg A) : FnOk P w K mg base CX0 3 A.f__law_row A.d__law_row ["_law_deck_here", "_law_p", "_law_posts"] spDrawn := by
  have G__law_numbers : FnOk P w K mg base CX0 2 A.f__law_numbers A.d__law_numbers ["_law_deck_here", "_law_p", "_law_many"] spNums := ok__law_numbers T
  refine T.d__law_row.F.ok sc__law_row (fun vs H Q E h => ?_) (fun cdv A outer s H vs Q E hr h => ?_)
  · obtain ⟨d, g, c, k, p, m, rfl, _⟩ := h
    rfl
  · obtain ⟨d, g, c, k, p, m, rfl, D0, hk, p2, p13, m0, m1, q⟩ := h
    refine ⟨_, (pss_one (ps_ret (pe_callTy call_tuple_of (by rfl) T.b_tuple PyProof.Rows.boot_tuple (pa_cons (pe_lc (own := [("_law_k", 3)]) rfl sc__law_row.nd (pi_range1 (by rfl) T.b_range (pa_cons (pv 2) pa_nil)) (blkOk_by (N := N__law_row) (sc := defScope s__law_row) (by decide +kernel)) (fun _ _ _ _ _ => (pg_name (i := 3) sc__law_row.nd rfl (.inl rfl))) (fun _ _ _ _ _ => pts_nil) (fun _ _ _ _ _ => (pe_call G__law_numbers hr (by rfl) T.d__law_numbers.g T.d__law_numbers.F.kp T.d__law_numbers.b .nil pass0 (pa_cons (pv 0) (pa_cons (pv 1) (pa_cons pe_int pa_nil)))))) pa_nil)))), ?_⟩
    refine ⟨.int m, rfl, m, rfl, by omega, by omega, fun L hL => lc_range (fun i H' => Dk d g c (k + 4 * i) H' ∧ Fr d g H H' ∧ ∃ (xs : List V) (ds : List PyData), DqAll (cut L L (cut d g H')) xs ds ∧ GdAll (13 * i) 1 ds ∧ ds.all (isPairD p) = true ∧ ds.length = i ∧ H' L = some (.lst xs)) ⟨(D0.same (same_upd hL)).mono (by omega), .new hL, [], [], .nil, .nil, rfl, rfl, upd_same⟩ ?_ ?_⟩
    · rintro i H1 hi ⟨D1, f1, xs, ds, hq, hG, hall, hlen, eL⟩
      have nL := D0.nd hL
      refine ⟨rfl, .ref d, rfl, .int p, rfl, d, g, c, _, p, 2, rfl, D1, by omega, p2, p13, by decide, by decide, fun t ns H2 hns nl et D2 f2 => ?_⟩
      have eL2 := f2 L _ nL.1 nL.2.1 eL
      have lx := hq.length
      have ntL : t ≠ L := ne_of et eL2 (by intro z; cases z)
      obtain ⟨gs, cs, n, h1, h2, h3, h4, h5, h6, h7⟩ := D2.ex
      have ntd : t ≠ d := ne_of et h1 (by intro z; cases z)
      have ntg : t ≠ g := ne_of et h2 (by intro z; cases z)
      obtain ⟨u, v, rfl⟩ : ∃ u v, ns = [u, v] := by
        match ns, nl with
        | [u, v], _ => exact ⟨u, v, rfl⟩
      have hu := hns u (by simp)
      have hv := hns v (by simp)
      refine ⟨xs, eL2, small1000 (by omega), ⟨⟨gs, cs, n, by rw [upd_ne nL.1.symm]; exact h1, by rw [upd_ne nL.2.1.symm]; exact h2, by rw [upd_ne nL.2.2.symm]; exact h3, h4, h5, h6, by omega⟩, D2.dg, D2.dc, D2.gc⟩, fun b o e1 e2 e => ?_, xs ++ [.ref t], ds ++ [.tuple [.int u, .int v]], ?_, ?_, ?_, ?_, upd_same⟩
      · rw [upd_ne (ne_of_none e hL)]
        exact f2 _ _ e1 e2 (f1 _ _ e1 e2 e)
      · refine DqAll.append ((hq.same (Fr.of_same f2.cut).cut).same cut_upd.cut) (.cons (.tup (xs := [.int u, .int v]) (cut_at ntL ntL (cut_at ntd ntg (by rw [upd_ne ntL]; exact et))) (.cons (.int u) (.cons (.int v) .nil))) .nil)
      · refine (hG.append (GdAll.cons (Gd.tup (GdAll.cons ((Gd.int (k := 4) (by decide) (by decide) (by omega)).mono (Nat.le_refl _) (Nat.zero_le _)) (GdAll.cons ((Gd.int (k := 4) (by decide) (by decide) (by omega)).mono (Nat.le_refl _) (Nat.zero_le _)) (GdAll.nil (n := 0) (m := 0))))) (GdAll.nil (n := 0)))).mono (by omega) (Nat.le_refl _)
      · rw [List.all_append, hall]
        show (true && ((decide (0 ≤ u) && decide (u < p) && (decide (0 ≤ v) && decide (v < p))) && true)) = true
        rw [decide_eq_true hu.1, decide_eq_true hu.2, decide_eq_true hv.1, decide_eq_true hv.2]
        rfl
      · rw [List.length_append, hlen]
        rfl
    · rintro H1 ⟨D1, f1, xs, ds, hq, hG, hall, hlen, eL⟩
      refine ⟨L, _, rfl, .inl ⟨SqL.of eL, fun t ht => ?_⟩⟩
      have nt := D1.nd ht
      exact q t xs ds _ ((hq.same cut_same).same (Fr.new ht).cut) hG hall hlen upd_same nt.1 nt.2.1 ((D1.same (same_upd ht)).mono (by omega)) (f1.trans (.new ht))
def spOdd : Sp := fun vs H Q _ => ∃ (d g c : Addr) (k p : Int), vs = [.ref d, .int p] ∧ Dk d g c k H ∧ k ≤ 1000000 ∧ 2 ≤ p ∧ p ≤ 13 ∧
  ∀ (x : V) (H' : Hp), Thg d g 400 2 H' x → Dk d g c (k + 1) H' → Fr d g H H' → Q x H'
theorem ok__law_odd (T : Tx K mg A) : FnOk P w K mg base CX0 2 A.f__law_odd A.d__law_odd ["_law_deck_here", "_law_p"] spOdd := by
  have G__law_next : FnOk P w K mg base CX0 1 A.f__law_next A.d__law_next ["_law_deck_here", "_law_many"] spNext := ok__law_next T
  refine T.d__law_odd.F.ok sc__law_odd (fun vs H Q E h => ?_) (fun cdv A outer s H vs Q E hr h => ?_)
  · obtain ⟨d, g, c, k, p, rfl, _⟩ := h
    rfl
  · obtain ⟨d, g, c, k, p, rfl, D0, hk, p2, p13, q⟩ := h
    refine ⟨_, (pss_cons (ps_set (i := 2) sc__law_odd.nd rfl (.inl rfl) (pe_lst (pa_cons (pv 1) (pa_cons (pe_op op_add (pv 1) pe_int) (pa_cons (pe_un un_neg pe_int) (pa_cons pe_bl (pa_cons pe_bl (pa_cons pe_non (pa_cons pe_str (pa_cons pe_str (pa_cons (pe_tup (pa_cons pe_int pa_nil)) (pa_cons (pe_tup (pa_cons pe_int (pa_cons pe_int (pa_cons pe_int pa_nil)))) (pa_cons (pe_lst (pa_cons pe_int (pa_cons pe_int pa_nil))) (pa_cons (pe_tup pa_nil) (pa_cons pe_dnewK (pa_cons (pe_op op_pow pe_int pe_int) (pa_cons (pe_lst pa_nil) (pa_cons (pe_tup (pa_cons (pe_tup (pa_cons pe_int (pa_cons pe_int pa_nil))) pa_nil)) pa_nil))))))))))))))))))
        (pss_one (ps_ret (pe_ix ix_list (pe_op op_cat (pv 2) (pe_lst (pa_cons pe_int (pa_cons (pe_op op_sub (pv 1) pe_int) pa_nil)))) (pe_call G__law_next hr (by rfl) T.d__law_next.g T.d__law_next.F.kp T.d__law_next.b .nil pass0 (pa_cons (pv 0) (pa_cons pe_int pa_nil))) (fun _ _ => rfl))))), ?_⟩
    refine ⟨.int p, rfl, .int p, rfl, p, 1, rfl, rfl, 1, rfl, ?_⟩
    -- (0,)
    refine ⟨(by show 1 ≤ sizeLine; decide), fun p1 h1 => ?_⟩
    have t1 := Thg.newT D0 h1 (Ths.cons (m := 1) (Thg.small (i := 0) (by decide)) (Ths.nil (n := 0)))
    have D1 := D0.same (same_upd (o := .tup [.int 0]) h1)
    have f1 : Fr d g H (upd H p1 (.tup [.int 0])) := .new h1
    generalize upd H p1 (.tup [.int 0]) = H1 at *
    -- (0, 0, 0)
    refine ⟨(by show 3 ≤ sizeLine; decide), fun p2 h2 => ?_⟩
    have t2 := Thg.newT D1 h2 (Ths.cons (m := 1) (Thg.small (i := 0) (by decide)) (Ths.cons (Thg.small (i := 0) (by decide)) (Ths.cons (Thg.small (i := 0) (by decide)) (Ths.nil (n := 0)))))
    have D2 := D1.same (same_upd (o := .tup [.int 0, .int 0, .int 0]) h2)
    have f2 : Fr d g H1 (upd H1 p2 (.tup [.int 0, .int 0, .int 0])) := .new h2
    generalize upd H1 p2 (.tup [.int 0, .int 0, .int 0]) = H2 at *
    -- [0, 0]
    refine ⟨(by show 2 ≤ sizeLine; decide), fun p3 h3 => ?_⟩
    have t3 := Thg.newL D2 h3 (Ths.cons (m := 1) (Thg.small (i := 0) (by decide)) (Ths.cons (Thg.small (i := 0) (by decide)) (Ths.nil (n := 0))))
    have D3 := D2.same (same_upd (o := .lst [.int 0, .int 0]) h3)
    have f3 : Fr d g H2 (upd H2 p3 (.lst [.int 0, .int 0])) := .new h3
    generalize upd H2 p3 (.lst [.int 0, .int 0]) = H3 at *
    -- ()
    refine ⟨Nat.zero_le _, fun p4 h4 => ?_⟩
    have t4 := Thg.newT D3 h4 (Ths.nil (n := 0) (m := 1))
    have D4 := D3.same (same_upd (o := .tup []) h4)
    have f4 : Fr d g H3 (upd H3 p4 (.tup [])) := .new h4
    generalize upd H3 p4 (.tup []) = H4 at *
    -- {}
    intro p5 h5
    have t5 := Thg.dic (n := 0) (m := 1) D4 h5
    have D5 := D4.same (same_upd (o := .dK []) h5)
    have f5 : Fr d g H4 (upd H4 p5 (.dK [])) := .new h5
    generalize upd H4 p5 (.dK []) = H5 at *
    -- 10 ** 30
    refine ⟨10, 30, rfl, rfl, ⟨by decide, by decide, by decide⟩, ?_⟩
    -- []
    refine ⟨Nat.zero_le _, fun p6 h6 => ?_⟩
    have t6 := Thg.newL D5 h6 (Ths.nil (n := 0) (m := 1))
    have D6 := D5.same (same_upd (o := .lst []) h6)
    have f6 : Fr d g H5 (upd H5 p6 (.lst [])) := .new h6
    generalize upd H5 p6 (.lst []) = H6 at *
    -- ((0, 0),)
    refine ⟨(by show 2 ≤ sizeLine; decide), fun p7 h7 => ?_⟩
    have t7 := Thg.newT D6 h7 (Ths.cons (m := 0) (Thg.small (i := 0) (by decide)) (Ths.cons (Thg.small (i := 0) (by decide)) (Ths.nil (n := 0))))
    have D7 := D6.same (same_upd (o := .tup [.int 0, .int 0]) h7)
    have f7 : Fr d g H6 (upd H6 p7 (.tup [.int 0, .int 0])) := .new h7
    generalize upd H6 p7 (.tup [.int 0, .int 0]) = H7 at *
    refine ⟨(by show 1 ≤ sizeLine; decide), fun p8 h8 => ?_⟩
    have t8 := Thg.newT D7 h8 (Ths.cons t7 (Ths.nil (n := 0)))
    have D8 := D7.same (same_upd (o := .tup [.ref p7]) h8)
    have f8 : Fr d g H7 (upd H7 p8 (.tup [.ref p7])) := .new h8
    generalize upd H7 p8 (.tup [.ref p7]) = H8 at *
    refine ⟨(by show 16 ≤ sizeLine; decide), fun S hS => ?_⟩
    have F7 := f7.trans f8
    have F6 := f6.trans F7
    have F5 := f5.trans F6
    have F4 := f4.trans F5
    have F3 := f3.trans F4
    have F2 := f2.trans F3
    have all8 : Ths d g 400 2 H8 ([.int p, .int (p + 1), .int (-1), .bl true, .bl false, .non, .str "0", .str "", .ref p1, .ref p2, .ref p3, .ref p4, .ref p5, .int (10 ^ (30 : Int).toNat), .ref p6, .ref p8] ++ [.int 0, .int (p - 1)]) := by
      refine Ths.mono (n := 5 + 1 + (5 + 1 + (5 + 1 + (0 + 1 + (0 + 1 + (0 + 1 + (1 + 1 + (1 + 1 + (6 + 1 + (18 + 1 + (12 + 1 + (0 + 1 + (0 + 1 + (111 + 1 + (0 + 1 + (13 + 1 + (5 + 1 + (5 + 1 + 0)))))))))))))))))) (Ths.cons (Thg.small (by omega)) (Ths.cons (Thg.small (by omega)) (Ths.cons (Thg.small (by decide)) (Ths.cons .bl (Ths.cons .bl (Ths.cons .non (Ths.cons (Thg.str (by decide +kernel) (by decide)) (Ths.cons (Thg.str (by decide +kernel) (by decide)) ?_)))))))) (by decide) (Nat.le_refl 2)
      refine Ths.cons ((t1.fr F2).mono (by decide) (by decide)) (Ths.cons ((t2.fr F3).mono (by decide) (by decide)) (Ths.cons ((t3.fr F4).mono (by decide) (by decide)) (Ths.cons ((t4.fr F5).mono (by decide) (by decide)) (Ths.cons ((t5.fr F6).mono (by decide) (by decide)) (Ths.cons (Thg.int (by decide)) (Ths.cons ((t6.fr F7).mono (by decide) (by decide)) (Ths.cons (t8.mono (by decide) (by decide)) ?_)))))))
      exact Ths.cons (Thg.small (by decide)) (Ths.cons (Thg.small (by omega)) .nil)
    have zS := same_upd (o := .lst [.int p, .int (p + 1), .int (-1), .bl true, .bl false, .non, .str "0", .str "", .ref p1, .ref p2, .ref p3, .ref p4, .ref p5, .int (10 ^ (30 : Int).toNat), .ref p6, .ref p8]) hS
    have D9 := D8.same zS
    refine ⟨.ref S, rfl, .int p, rfl, p, 1, rfl, rfl, (by show 2 ≤ sizeLine; decide), fun M hM => ?_⟩
    have zM := same_upd (o := .lst [.int 0, .int (p - 1)]) hM
    refine ⟨S, M, _, _, rfl, rfl, zM _ _ upd_same, upd_same, (by show 18 ≤ sizeLine; decide), fun L hL => ?_⟩
    have D10 := D9.same zM
    have nL := D10.nd hL
    have zL := same_upd (o := .lst ([.int p, .int (p + 1), .int (-1), .bl true, .bl false, .non, .str "0", .str "", .ref p1, .ref p2, .ref p3, .ref p4, .ref p5, .int (10 ^ (30 : Int).toNat), .ref p6, .ref p8] ++ [.int 0, .int (p - 1)])) hL
    refine ⟨.ref d, rfl, d, g, c, k, 18, rfl, by decide, by decide, D10.same zL, by omega, fun r H' r0 r1 D' f' => ?_⟩
    have ft := (Fr.of_same ((zS.trans zM).trans zL)).trans f'
    obtain ⟨y, ey, ty⟩ := (all8.fr ft).pick r0 r1
    exact ⟨L, _, r, y, rfl, rfl, SqL.of (f' L _ nL.1 nL.2.1 upd_same), ey, q y H' ty D' ((f1.trans F2).trans ft)⟩
theorem Thg.tup_of {d g a : Addr} {n m : Nat} {H : Hp} {xs : List V} (e : H a = some (.tup xs)) (h1 : a ≠ d) (h2 : a ≠ g) (t : Ths d g n m H xs) : Thg d g n (m + 1) H (.ref a) := by
  obtain ⟨ds, k1, k2⟩ := t
  exact ⟨.tuple ds, .tup (cut_at h1 h2 e) k1, .tup k2⟩
def spBent : Sp := fun vs H Q _ => ∃ (d g c : Addr) (k p : Int) (x : V) (n m : Nat), vs = [.ref d, .int p, x] ∧ Dk d g c k H ∧ k ≤ 900000 ∧ 2 ≤ p ∧ p ≤ 13 ∧ Thg d g n m H x ∧ n ≤ 19000 ∧
  ∀ (y : V) (H' : Hp), Thg d g (5 * n + 2000) (m + 4) H' y → Dk d g c (k + 10) H' → Fr d g H H' → Q y H'
theorem ok__law_bent (T : Tx K mg A) : FnOk P w K mg base CX0 3 A.f__law_bent A.d__law_bent ["_law_deck_here", "_law_p", "_law_row_here"] spBent := by
  have G__law_next : FnOk P w K mg base CX0 1 A.f__law_next A.d__law_next ["_law_deck_here", "_law_many"] spNext := ok__law_next T
  have G__law_odd : FnOk P w K mg base CX0 2 A.f__law_odd A.d__law_odd ["_law_deck_here", "_law_p"] spOdd := ok__law_odd T
  refine T.d__law_bent.F.ok sc__law_bent (fun vs H Q E h => ?_) (fun cdv A outer s H vs Q E hr h => ?_)
  · obtain ⟨d, g, c, k, p, x, n, m, rfl, _⟩ := h
    rfl
  · obtain ⟨d, g, c, k, p, x, n, m, rfl, D0, hk, p2, p13, tx, hn, q⟩ := h
    refine ⟨_, (pss_cons (ps_set (i := 3) sc__law_bent.nd rfl (.inl rfl) (pe_call G__law_next (hr.mono (by decide)) (by rfl) T.d__law_next.g T.d__law_next.F.kp T.d__law_next.b .nil pass0 (pa_cons (pv 0) (pa_cons pe_int pa_nil))))
        (pss_cons (ps_if (PW.pt (pw_or (pt_not (pt_val (pe_callB call_isi (by rfl) T.b_isinstance PyProof.Rows.boot_isinstance (pa_cons (pv 2) (pa_cons (pe_bltn (v := .ty "tuple") (by rfl) T.b_tuple PyProof.Rows.boot_tuple rfl) pa_nil))))) (pw_or (pt_cmpR (op_eqT0 (ru80 hr)) (pv 2) (pe_tup pa_nil) (nomark _)) (pw_or1 (pt_cmpR op_eq (pv 3) pe_int (nomark _))))))
        (pss_one (ps_ret (pe_ix ix_list (pe_lst (pa_cons (pe_call G__law_odd hr (by rfl) T.d__law_odd.g T.d__law_odd.F.kp T.d__law_odd.b .nil pass0 (pa_cons (pv 0) (pa_cons (pv 1) pa_nil))) (pa_cons (pv 2) pa_nil))) (pe_callTy call_int1 (by rfl) T.b_int PyProof.Rows.boot_int (pa_cons (pe_cmpR op_gt (pv 3) pe_int (nomark _)) pa_nil)) (fun _ _ => rfl))))
        pss_nil)
        (pss_cons (ps_set (i := 4) sc__law_bent.nd rfl (.inl rfl) (pe_call G__law_next (hr.mono (by decide)) (by rfl) T.d__law_next.g T.d__law_next.F.kp T.d__law_next.b .nil pass0 (pa_cons (pv 0) (pa_cons (pe_callB call_len_seq (by rfl) T.b_len PySem.boot_len (pa_cons (pv 2) pa_nil)) pa_nil))))
        (pss_cons (ps_if (pt_cmpR op_eq (pv 3) pe_int (nomark _))
        (pss_one (ps_ret (pe_ix ix_list (pe_lst (pa_cons (pe_callTy call_list_of (by rfl) T.b_list PyProof.Rows.boot_list (pa_cons (pv 2) pa_nil)) (pa_cons (pe_op op_catA (pv 2) (pe_tup (pa_cons (pe_tup (pa_cons pe_int (pa_cons pe_int pa_nil))) pa_nil))) (pa_cons (pe_op op_catA (pe_slice sl_tupA (pv 2) po_none (po_some (pv 4))) (pe_slice sl_tupA (pv 2) (po_some (pe_op op_add (pv 4) pe_int)) po_none)) (pa_cons (pe_revT (pv 2)) pa_nil))))) (pe_call G__law_next (hr.mono (by decide)) (by rfl) T.d__law_next.g T.d__law_next.F.kp T.d__law_next.b .nil pass0 (pa_cons (pv 0) (pa_cons pe_int pa_nil))) (fun _ _ => rfl))))
        pss_nil)
        (pss_cons (ps_if (PW.pt (pw_or (pt_cmpR op_eq (pv 3) pe_int (nomark _)) (pw_or (pt_not (pt_val (pe_callB call_isi (by rfl) T.b_isinstance PyProof.Rows.boot_isinstance (pa_cons (pe_ix ix_tup (pv 2) (pv 4) (fun _ _ => rfl)) (pa_cons (pe_bltn (v := .ty "tuple") (by rfl) T.b_tuple PyProof.Rows.boot_tuple rfl) pa_nil))))) (pw_or1 (pt_cmpR op_ne (pe_callB call_len_seq (by rfl) T.b_len PySem.boot_len (pa_cons (pe_ix ix_tup (pv 2) (pv 4) (fun _ _ => rfl)) pa_nil)) pe_int (nomark _))))))
        (pss_one (ps_ret (pe_op op_catA (pe_op op_catA (pe_slice sl_tupA (pv 2) po_none (po_some (pv 4))) (pe_tup (pa_cons (pe_call G__law_odd hr (by rfl) T.d__law_odd.g T.d__law_odd.F.kp T.d__law_odd.b .nil pass0 (pa_cons (pv 0) (pa_cons (pv 1) pa_nil))) pa_nil))) (pe_slice sl_tupA (pv 2) (po_some (pe_op op_add (pv 4) pe_int)) po_none))))
        pss_nil)
        (pss_cons (ps_asg (pe_ix ix_tup (pv 2) (pv 4) (fun _ _ => rfl)) (pg_tup rfl (pgs_cons (pg_name (i := 6) sc__law_bent.nd rfl (.inl rfl)) (pgs_cons (pg_name (i := 7) sc__law_bent.nd rfl (.inl rfl)) pgs_nil))))
        (pss_cons (ps_set (i := 5) sc__law_bent.nd rfl (.inl rfl) (pe_lst (pa_cons (pe_tup (pa_cons (pv 6) (pa_cons (pe_call G__law_odd hr (by rfl) T.d__law_odd.g T.d__law_odd.F.kp T.d__law_odd.b .nil pass0 (pa_cons (pv 0) (pa_cons (pv 1) pa_nil))) pa_nil))) (pa_cons (pe_tup (pa_cons (pe_call G__law_odd hr (by rfl) T.d__law_odd.g T.d__law_odd.F.kp T.d__law_odd.b .nil pass0 (pa_cons (pv 0) (pa_cons (pv 1) pa_nil))) (pa_cons (pv 7) pa_nil))) (pa_cons (pe_tup (pa_cons (pv 6) (pa_cons (pv 7) (pa_cons (pv 6) pa_nil)))) (pa_cons (pe_tup (pa_cons (pv 7) pa_nil)) (pa_cons (pe_lst (pa_cons (pv 6) (pa_cons (pv 7) pa_nil))) (pa_cons (pe_tup (pa_cons (pv 7) (pa_cons (pv 6) pa_nil))) pa_nil))))))))
        (pss_one (ps_ret (pe_op op_catA (pe_op op_catA (pe_slice sl_tupA (pv 2) po_none (po_some (pv 4))) (pe_tup (pa_cons (pe_ix ix_list (pv 5) (pe_op op_sub (pv 3) pe_int) (fun _ _ => rfl)) pa_nil))) (pe_slice sl_tupA (pv 2) (po_some (pe_op op_add (pv 4) pe_int)) po_none))))))))))), ?_⟩
    refine ⟨.ref d, rfl, d, g, c, k, 8, rfl, by decide, by decide, D0, by omega, fun kind H1 k0 k1 D1 f1 => ?_⟩
    have tx1 := tx.fr f1
    obtain ⟨t, ⟨ty, ht⟩, hc⟩ := tx1.ty K
    rcases hc with ⟨hb, a, xs, rfl, ha, ts⟩ | hb
    · have ki : PySem.W.kitOne K (.type t) (.type "tuple") = some true := by
        rw [← hb]
        exact isi_of "tuple" ht (by simp)
      have na : a ≠ d ∧ a ≠ g := by
        obtain ⟨gs, cs, n, h1, h2, _⟩ := D1.ex
        exact ⟨ne_of ha h1 (by intro z; cases z), ne_of ha h2 (by intro z; cases z)⟩
      refine ⟨.ref a, rfl, .ref a, _, _, _, true, rfl, .ty "tuple", ty, ki, _, rfl, ?_⟩
      refine ⟨.ref a, rfl, Nat.zero_le _, fun e hE => ?_⟩
      have f12 : Fr d g H1 (upd H1 e (.tup [])) := .new hE
      have D2' := D1.same (same_upd (o := .tup []) hE)
      have ha2 := f12 _ _ na.1 na.2 ha
      have eE : upd H1 e (.tup []) e = some (.tup []) := upd_same
      generalize upd H1 e (.tup []) = H2' at *
      have f02 := f1.trans f12
      refine ⟨a, e, xs, rfl, rfl, SqT.of ha2, SqT.of eE, _, rfl, ?_⟩
      cases xs with
      | nil =>
        generalize V.ref a = x at *
        refine ⟨.ref d, rfl, .int p, rfl, d, g, c, _, p, rfl, D2', by omega, p2, p13, fun o H2 to D2 f2 => ?_⟩
        refine ⟨x, rfl, (by show 2 ≤ sizeLine; decide), fun L hL => ?_⟩
        have zz : Fr d g H (upd H2 L (.lst [o, x])) := ((f02).trans f2).trans (.new hL)
        by_cases hk4 : 4 < kind
        · refine ⟨.int kind, rfl, kind, 4, rfl, rfl, .inr ⟨_, rfl, L, _, _, x, rfl, rfl, SqL.of upd_same, ?_, ?_⟩⟩
          · rw [decide_eq_true hk4]
            exact atI_nat (j := 1) rfl
          · exact q x _ (((tx.fr zz).mono (by omega) (by omega))) ((D2.same (same_upd hL)).mono (by omega)) zz
        · refine ⟨.int kind, rfl, kind, 4, rfl, rfl, .inr ⟨_, rfl, L, _, _, o, rfl, rfl, SqL.of upd_same, ?_, ?_⟩⟩
          · rw [decide_eq_false hk4]
            exact atI_zero
          · exact q o _ (((to.fr (.new hL)).mono (by omega) (by omega))) ((D2.same (same_upd hL)).mono (by omega)) zz
      | cons x0 xr =>
        refine ⟨.int kind, rfl, rfl, _, rfl, ite2 (fun ez => ?_) (fun ez => ?_)⟩
        · generalize V.ref a = x at *
          refine ⟨.ref d, rfl, .int p, rfl, d, g, c, _, p, rfl, D2', by omega, p2, p13, fun o H2 to D2 f2 => ?_⟩
          refine ⟨x, rfl, (by show 2 ≤ sizeLine; decide), fun L hL => ?_⟩
          have zz : Fr d g H (upd H2 L (.lst [o, x])) := ((f02).trans f2).trans (.new hL)
          by_cases hk4 : 4 < kind
          · refine ⟨.int kind, rfl, kind, 4, rfl, rfl, .inr ⟨_, rfl, L, _, _, x, rfl, rfl, SqL.of upd_same, ?_, ?_⟩⟩
            · rw [decide_eq_true hk4]
              exact atI_nat (j := 1) rfl
            · exact q x _ (((tx.fr zz).mono (by omega) (by omega))) ((D2.same (same_upd hL)).mono (by omega)) zz
          · refine ⟨.int kind, rfl, kind, 4, rfl, rfl, .inr ⟨_, rfl, L, _, _, o, rfl, rfl, SqL.of upd_same, ?_, ?_⟩⟩
            · rw [decide_eq_false hk4]
              exact atI_zero
            · exact q o _ (((to.fr (.new hL)).mono (by omega) (by omega))) ((D2.same (same_upd hL)).mono (by omega)) zz
        · -- at = next(len(row))
          have lx := ts.len
          have ll : (0 : Int) < ((x0 :: xr).length : Nat) := by
            show (0 : Int) < ((xr.length + 1 : Nat) : Int)
            omega
          refine ⟨.ref d, rfl, .ref a, rfl, a, _, rfl, .inr (SqT.of ha2), d, g, c, _, _, rfl, ll, by omega, D2', by omega, fun at' H3 a0 a1 D3 f3 => ?_⟩
          have f13 : Fr d g H1 H3 := f12.trans f3
          have f03 : Fr d g H H3 := f1.trans f13
          have ha3 := f13 _ _ na.1 na.2 ha
          have tx3 := ts.fr f13
          refine ⟨.int kind, rfl, rfl, _, rfl, ite2 (fun e1 => ?_) (fun e1 => ?_)⟩
          · -- [list(row), row + ((0, 0),), row[:at] + row[at + 1:], row[::-1]][next(4)]
            refine ⟨.ref a, rfl, a, _, rfl, .inr (SqT.of ha3), fun l1 hl1 => ?_⟩
            have tl1 := Thg.newL D3 hl1 tx3
            have D4 := D3.same (same_upd (o := .lst (x0 :: xr)) hl1)
            have f4 : Fr d g H3 (upd H3 l1 (.lst (x0 :: xr))) := .new hl1
            generalize upd H3 l1 (.lst (x0 :: xr)) = H4 at *
            refine ⟨.ref a, rfl, (by show 2 ≤ sizeLine; decide), fun t1 h1 => ?_⟩
            have tt1 := Thg.newT D4 h1 (Ths.cons (m := m) (Thg.small (i := 0) (by decide)) (Ths.cons (Thg.small (i := 0) (by decide)) (Ths.nil (n := 0))))
            have D5 := D4.same (same_upd (o := .tup [.int 0, .int 0]) h1)
            have f5 : Fr d g H4 (upd H4 t1 (.tup [.int 0, .int 0])) := .new h1
            generalize upd H4 t1 (.tup [.int 0, .int 0]) = H5 at *
            refine ⟨(by show 1 ≤ sizeLine; decide), fun t2 h2 => ?_⟩
            have D6 := D5.same (same_upd (o := .tup [.ref t1]) h2)
            have f6 : Fr d g H5 (upd H5 t2 (.tup [.ref t1])) := .new h2
            have e2 : upd H5 t2 (.tup [.ref t1]) t2 = some (.tup [.ref t1]) := upd_same
            generalize upd H5 t2 (.tup [.ref t1]) = H6 at *
            have f36 : Fr d g H3 H6 := (f4.trans f5).trans f6
            refine cat_ok D6 (f36 _ _ na.1 na.2 ha3) e2 ((tx3.mono (n' := n) (m' := m + 1) (Nat.le_refl _) (by omega)).fr f36) (Ths.cons (n := 12) (tt1.fr f6) (Ths.nil (n := 0) (m := m + 1))) (by omega) fun u3 zs3 H7 D7 f7 e3 ts3 => ?_
            have n3 : u3 ≠ d ∧ u3 ≠ g := by
              obtain ⟨gs, cs, n, h1, h2, _⟩ := D7.ex
              exact ⟨ne_of e3 h1 (by intro z; cases z), ne_of e3 h2 (by intro z; cases z)⟩
            have tu3 := Thg.tup_of e3 n3.1 n3.2 ts3
            have f37 : Fr d g H3 H7 := f36.trans f7
            refine ⟨.ref a, rfl, .int at', rfl, at', rfl, sl_ok D7 (f37 _ _ na.1 na.2 ha3) (tx3.fr f37) fun s1 zs1 H8 D8 f8 e4 ts4 => ?_⟩
            have n4 : s1 ≠ d ∧ s1 ≠ g := by
              obtain ⟨gs, cs, n, h1, h2, _⟩ := D8.ex
              exact ⟨ne_of e4 h1 (by intro z; cases z), ne_of e4 h2 (by intro z; cases z)⟩
            have f38 : Fr d g H3 H8 := f37.trans f8
            refine ⟨.ref a, rfl, .int at', rfl, at', 1, rfl, rfl, _, rfl, ?_⟩
            dsimp only [tNoPart]
            refine sl_ok D8 (f38 _ _ na.1 na.2 ha3) (tx3.fr f38) fun s2 zs2 H9 D9 f9 e5 ts5 => ?_
            refine cat_ok D9 (f9 _ _ n4.1 n4.2 e4) e5 (ts4.fr f9) ts5 (by omega) fun u6 zs6 H10 D10 f10 e6 ts6 => ?_
            have n6 : u6 ≠ d ∧ u6 ≠ g := by
              obtain ⟨gs, cs, n, h1, h2, _⟩ := D10.ex
              exact ⟨ne_of e6 h1 (by intro z; cases z), ne_of e6 h2 (by intro z; cases z)⟩
            have tu6 := Thg.tup_of e6 n6.1 n6.2 ts6
            have f310 : Fr d g H3 H10 := (f38.trans f9).trans f10
            refine ⟨.ref a, rfl, a, _, rfl, SqT.of (f310 _ _ na.1 na.2 ha3), fun rv hr1 => ?_⟩
            have tr := Thg.newT D10 hr1 (tx3.fr f310).rev
            have D11 := D10.same (same_upd (o := .tup (x0 :: xr).reverse) hr1)
            have f11 : Fr d g H10 (upd H10 rv (.tup (x0 :: xr).reverse)) := .new hr1
            generalize upd H10 rv (.tup (x0 :: xr).reverse) = H11 at *
            have f311 := f310.trans f11
            refine ⟨(by show 4 ≤ sizeLine; decide), fun L hL => ?_⟩
            have nL := D11.nd hL
            have all4 : Ths d g (5 * n + 2000) (m + 2) H11 [.ref l1, .ref u3, .ref u6, .ref rv] := by
              refine Ths.mono (n := n + 1 + ((n + 13) + 1 + ((n + n) + 1 + (n + 1 + 0)))) ?_ ?_ (Nat.le_refl _)
              · exact Ths.cons ((tl1.fr (((((((f5.trans f6).trans f7).trans f8).trans f9).trans f10).trans f11))).mono (Nat.le_refl _) (by omega)) (Ths.cons ((tu3.fr (((f8.trans f9).trans f10).trans f11)).mono (by omega) (by omega)) (Ths.cons ((tu6.fr f11).mono (Nat.le_refl _) (by omega)) (Ths.cons (tr.mono (Nat.le_refl _) (by omega)) .nil)))
              · omega
            refine ⟨.ref d, rfl, d, g, c, _, 4, rfl, by decide, by decide, D11.same (same_upd hL), by omega, fun r H12 r0 r1 D12 f12 => ?_⟩
            have fz := (Fr.new (o := .lst [.ref l1, .ref u3, .ref u6, .ref rv]) hL).trans f12
            obtain ⟨y, ey, tyy⟩ := (all4.fr fz).pick r0 r1
            exact ⟨L, _, r, y, rfl, rfl, SqL.of (f12 L _ nL.1 nL.2.1 upd_same), ey, q y H12 (tyy.mono (Nat.le_refl _) (by omega)) (D12.mono (by omega)) ((f03.trans f311).trans fz)⟩
          · obtain ⟨y, ey, tyy⟩ := tx3.pick a0 a1
            refine ⟨.int kind, rfl, rfl, _, rfl, ite2 (fun e2 => ?_) (fun e2 => ?_)⟩
            · -- kind 2
              refine ⟨.ref a, rfl, .int at', rfl, at', rfl, sl_ok D3 ha3 tx3 fun s1 zs1 H4 D4 f4 e1 ts1 => ?_⟩
              refine ⟨.ref d, rfl, .int p, rfl, d, g, c, _, p, rfl, D4, by omega, p2, p13, fun o H5 to D5 f5 => ?_⟩
              refine ⟨(by show 1 ≤ sizeLine; decide), fun t2 h2 => ?_⟩
              have n1 : s1 ≠ d ∧ s1 ≠ g := by
                obtain ⟨gs, cs, n, h1, h2, _⟩ := D4.ex
                exact ⟨ne_of e1 h1 (by intro z; cases z), ne_of e1 h2 (by intro z; cases z)⟩
              have fz : Fr d g H4 (upd H5 t2 (.tup [o])) := f5.trans (.new h2)
              refine cat_ok (D5.same (same_upd h2)) (fz _ _ n1.1 n1.2 e1) upd_same ((ts1.mono (n' := n) (m' := m + 2) (Nat.le_refl _) (by omega)).fr fz) (Ths.cons (n := 400) ((to.fr (.new h2)).mono (Nat.le_refl _) (by omega)) (Ths.nil (n := 0) (m := m + 2))) (by omega) fun u3 zs3 H6 D6 f6 e3 ts3 => ?_
              have n3 : u3 ≠ d ∧ u3 ≠ g := by
                obtain ⟨gs, cs, n, h1, h2, _⟩ := D6.ex
                exact ⟨ne_of e3 h1 (by intro z; cases z), ne_of e3 h2 (by intro z; cases z)⟩
              have f36 : Fr d g H3 H6 := (f4.trans fz).trans f6
              refine ⟨.ref a, rfl, .int at', rfl, at', 1, rfl, rfl, _, rfl, ?_⟩
              dsimp only [tNoPart]
              refine sl_ok D6 (f36 _ _ na.1 na.2 ha3) (tx3.fr f36) fun s4 zs4 H7 D7 f7 e4 ts4 => ?_
              refine cat_ok D7 (f7 _ _ n3.1 n3.2 e3) e4 (ts3.fr f7) (ts4.mono (n' := n) (m' := m + 2) (Nat.le_refl _) (by omega)) (by omega) fun u5 zs5 H8 D8 f8 e5 ts5 => ?_
              have n5 : u5 ≠ d ∧ u5 ≠ g := by
                obtain ⟨gs, cs, n, h1, h2, _⟩ := D8.ex
                exact ⟨ne_of e5 h1 (by intro z; cases z), ne_of e5 h2 (by intro z; cases z)⟩
              exact q (.ref u5) H8 ((Thg.tup_of e5 n5.1 n5.2 ts5).mono (by omega) (by omega)) (D8.mono (by omega)) (((f03.trans f36).trans f7).trans f8)
            · obtain ⟨t4, ⟨ty4, ht4⟩, hc4⟩ := tyy.ty K
              rcases hc4 with ⟨hb4, b, ys, rfl, hb', tys⟩ | hb4
              · have ki4 : PySem.W.kitOne K (.type t4) (.type "tuple") = some true := by
                  rw [← hb4]
                  exact isi_of "tuple" ht4 (by simp)
                refine ⟨.ref a, rfl, .int at', rfl, a, _, at', _, rfl, rfl, SqT.of ha3, ey, .ref b, _, _, _, true, rfl, .ty "tuple", ty4, ki4, _, rfl, ?_⟩
                refine ⟨.ref a, rfl, .int at', rfl, a, _, at', _, rfl, rfl, SqT.of ha3, ey, b, ys, rfl, .inr (SqT.of hb'), rfl, _, rfl, ite2 (fun e5 => ?_) (fun e5 => ?_)⟩
                · -- not two
                  refine ⟨.ref a, rfl, .int at', rfl, at', rfl, sl_ok D3 ha3 tx3 fun s1 zs1 H4 D4 f4 e1 ts1 => ?_⟩
                  refine ⟨.ref d, rfl, .int p, rfl, d, g, c, _, p, rfl, D4, by omega, p2, p13, fun o H5 to D5 f5 => ?_⟩
                  refine ⟨(by show 1 ≤ sizeLine; decide), fun t2 h2 => ?_⟩
                  have n1 : s1 ≠ d ∧ s1 ≠ g := by
                    obtain ⟨gs, cs, n, h1, h2, _⟩ := D4.ex
                    exact ⟨ne_of e1 h1 (by intro z; cases z), ne_of e1 h2 (by intro z; cases z)⟩
                  have fz : Fr d g H4 (upd H5 t2 (.tup [o])) := f5.trans (.new h2)
                  refine cat_ok (D5.same (same_upd h2)) (fz _ _ n1.1 n1.2 e1) upd_same ((ts1.mono (n' := n) (m' := m + 2) (Nat.le_refl _) (by omega)).fr fz) (Ths.cons (n := 400) ((to.fr (.new h2)).mono (Nat.le_refl _) (by omega)) (Ths.nil (n := 0) (m := m + 2))) (by omega) fun u3 zs3 H6 D6 f6 e3 ts3 => ?_
                  have n3 : u3 ≠ d ∧ u3 ≠ g := by
                    obtain ⟨gs, cs, n, h1, h2, _⟩ := D6.ex
                    exact ⟨ne_of e3 h1 (by intro z; cases z), ne_of e3 h2 (by intro z; cases z)⟩
                  have f36 : Fr d g H3 H6 := (f4.trans fz).trans f6
                  refine ⟨.ref a, rfl, .int at', rfl, at', 1, rfl, rfl, _, rfl, ?_⟩
                  dsimp only [tNoPart]
                  refine sl_ok D6 (f36 _ _ na.1 na.2 ha3) (tx3.fr f36) fun s4 zs4 H7 D7 f7 e4 ts4 => ?_
                  refine cat_ok D7 (f7 _ _ n3.1 n3.2 e3) e4 (ts3.fr f7) (ts4.mono (n' := n) (m' := m + 2) (Nat.le_refl _) (by omega)) (by omega) fun u5 zs5 H8 D8 f8 e5 ts5 => ?_
                  have n5 : u5 ≠ d ∧ u5 ≠ g := by
                    obtain ⟨gs, cs, n, h1, h2, _⟩ := D8.ex
                    exact ⟨ne_of e5 h1 (by intro z; cases z), ne_of e5 h2 (by intro z; cases z)⟩
                  exact q (.ref u5) H8 ((Thg.tup_of e5 n5.1 n5.2 ts5).mono (by omega) (by omega)) (D8.mono (by omega)) (((f03.trans f36).trans f7).trans f8)
                · -- x, y = row[at]
                  have l2 : ys.length = 2 := by
                    have z2 : V.int (ys.length : Nat) = V.int 2 := by simpa using e5
                    have z3 := V.int.inj z2
                    omega
                  obtain ⟨u, v, rfl⟩ : ∃ u v, ys = [u, v] := by
                    match ys, l2 with
                    | [u, v], _ => exact ⟨u, v, rfl⟩
                  have tu : Thg d g n m H3 u := tys.get (i := 0) rfl
                  have tv : Thg d g n m H3 v := tys.get (i := 1) rfl
                  have kb : 3 ≤ kind := by
                    have z1 : kind ≠ 0 := fun z => ez (by rw [z]; rfl)
                    have z2 : kind ≠ 1 := fun z => e1 (by rw [z]; rfl)
                    have z3 : kind ≠ 2 := fun z => e2 (by rw [z]; rfl)
                    omega
                  refine ⟨.ref a, rfl, .int at', rfl, a, _, at', _, rfl, rfl, SqT.of ha3, ey, b, [u, v], rfl, SqT.of hb', rfl, u, [v], rfl, v, [], rfl, rfl, ?_⟩
                  -- (x, odd)
                  refine ⟨u, rfl, .ref d, rfl, .int p, rfl, d, g, c, _, p, rfl, D3, by omega, p2, p13, fun o1 H4 to1 D4 f4 => ?_⟩
                  refine ⟨(by show 2 ≤ sizeLine; decide), fun w1 h1 => ?_⟩
                  have tw1 := Thg.newT D4 h1 (Ths.cons ((tu.fr f4).mono (n' := n) (m' := m + 2) (Nat.le_refl _) (by omega)) (Ths.cons (to1.mono (n' := 400) (m' := m + 2) (Nat.le_refl _) (by omega)) (Ths.nil (n := 0))))
                  have D5 := D4.same (same_upd (o := .tup [u, o1]) h1)
                  have f5 : Fr d g H4 (upd H4 w1 (.tup [u, o1])) := .new h1
                  generalize upd H4 w1 (.tup [u, o1]) = H5 at *
                  -- (odd, y)
                  refine ⟨.ref d, rfl, .int p, rfl, d, g, c, _, p, rfl, D5, by omega, p2, p13, fun o2 H6 to2 D6 f6 => ?_⟩
                  have f36 : Fr d g H3 H6 := (f4.trans f5).trans f6
                  refine ⟨v, rfl, (by show 2 ≤ sizeLine; decide), fun w2 h2 => ?_⟩
                  have tw2 := Thg.newT D6 h2 (Ths.cons (to2.mono (n' := 400) (m' := m + 2) (Nat.le_refl _) (by omega)) (Ths.cons ((tv.fr f36).mono (n' := n) (m' := m + 2) (Nat.le_refl _) (by omega)) (Ths.nil (n := 0))))
                  have D7 := D6.same (same_upd (o := .tup [o2, v]) h2)
                  have f7 : Fr d g H6 (upd H6 w2 (.tup [o2, v])) := .new h2
                  generalize upd H6 w2 (.tup [o2, v]) = H7 at *
                  have f37 := f36.trans f7
                  -- (x, y, x)
                  refine ⟨u, rfl, v, rfl, u, rfl, (by show 3 ≤ sizeLine; decide), fun w3 h3 => ?_⟩
                  have tw3 := Thg.newT D7 h3 (Ths.cons ((tu.fr f37).mono (n' := n) (m' := m + 2) (Nat.le_refl _) (by omega)) (Ths.cons ((tv.fr f37).mono (n' := n) (m' := m + 2) (Nat.le_refl _) (by omega)) (Ths.cons ((tu.fr f37).mono (n' := n) (m' := m + 2) (Nat.le_refl _) (by omega)) (Ths.nil (n := 0)))))
                  have D8 := D7.same (same_upd (o := .tup [u, v, u]) h3)
                  have f8 : Fr d g H7 (upd H7 w3 (.tup [u, v, u])) := .new h3
                  generalize upd H7 w3 (.tup [u, v, u]) = H8 at *
                  have f38 := f37.trans f8
                  -- (y,)
                  refine ⟨v, rfl, (by show 1 ≤ sizeLine; decide), fun w4 h4 => ?_⟩
                  have tw4 := Thg.newT D8 h4 (Ths.cons ((tv.fr f38).mono (n' := n) (m' := m + 2) (Nat.le_refl _) (by omega)) (Ths.nil (n := 0)))
                  have D9 := D8.same (same_upd (o := .tup [v]) h4)
                  have f9 : Fr d g H8 (upd H8 w4 (.tup [v])) := .new h4
                  generalize upd H8 w4 (.tup [v]) = H9 at *
                  have f39 := f38.trans f9
                  -- [x, y]
                  refine ⟨u, rfl, v, rfl, (by show 2 ≤ sizeLine; decide), fun w5 h5 => ?_⟩
                  have tw5 := Thg.newL D9 h5 (Ths.cons ((tu.fr f39).mono (n' := n) (m' := m + 2) (Nat.le_refl _) (by omega)) (Ths.cons ((tv.fr f39).mono (n' := n) (m' := m + 2) (Nat.le_refl _) (by omega)) (Ths.nil (n := 0))))
                  have D10 := D9.same (same_upd (o := .lst [u, v]) h5)
                  have f10 : Fr d g H9 (upd H9 w5 (.lst [u, v])) := .new h5
                  generalize upd H9 w5 (.lst [u, v]) = H10 at *
                  have f310 := f39.trans f10
                  -- (y, x)
                  refine ⟨v, rfl, u, rfl, (by show 2 ≤ sizeLine; decide), fun w6 h6 => ?_⟩
                  have tw6 := Thg.newT D10 h6 (Ths.cons ((tv.fr f310).mono (n' := n) (m' := m + 2) (Nat.le_refl _) (by omega)) (Ths.cons ((tu.fr f310).mono (n' := n) (m' := m + 2) (Nat.le_refl _) (by omega)) (Ths.nil (n := 0))))
                  have D11 := D10.same (same_upd (o := .tup [v, u]) h6)
                  have f11 : Fr d g H10 (upd H10 w6 (.tup [v, u])) := .new h6
                  generalize upd H10 w6 (.tup [v, u]) = H11 at *
                  have f311 := f310.trans f11
                  refine ⟨(by show 6 ≤ sizeLine; decide), fun S hS => ?_⟩
                  have nS := D11.nd hS
                  have D12 := D11.same (same_upd (o := .lst [.ref w1, .ref w2, .ref w3, .ref w4, .ref w5, .ref w6]) hS)
                  have f12 : Fr d g H11 (upd H11 S (.lst [.ref w1, .ref w2, .ref w3, .ref w4, .ref w5, .ref w6])) := .new hS
                  have eS : upd H11 S (.lst [.ref w1, .ref w2, .ref w3, .ref w4, .ref w5, .ref w6]) S = some (.lst [.ref w1, .ref w2, .ref w3, .ref w4, .ref w5, .ref w6]) := upd_same
                  generalize upd H11 S (.lst [.ref w1, .ref w2, .ref w3, .ref w4, .ref w5, .ref w6]) = H12 at *
                  -- the one that is taken
                  obtain ⟨z, ez2, tz⟩ : ∃ z, atI [V.ref w1, .ref w2, .ref w3, .ref w4, .ref w5, .ref w6] (kind - 3) = some z ∧ Thg d g (3 * n + 500) (m + 3) H12 z := by
                    have g1 := (tw1.fr (((((((f6.trans f7).trans f8).trans f9).trans f10).trans f11).trans f12))).mono (n' := 3 * n + 500) (m' := m + 3) (by omega) (by omega)
                    have g2 := (tw2.fr ((((f8.trans f9).trans f10).trans f11).trans f12)).mono (n' := 3 * n + 500) (m' := m + 3) (by omega) (by omega)
                    have g3 := (tw3.fr (((f9.trans f10).trans f11).trans f12)).mono (n' := 3 * n + 500) (m' := m + 3) (by omega) (by omega)
                    have g4 := (tw4.fr ((f10.trans f11).trans f12)).mono (n' := 3 * n + 500) (m' := m + 3) (by omega) (by omega)
                    have g5 := (tw5.fr (f11.trans f12)).mono (n' := 3 * n + 500) (m' := m + 3) (by omega) (by omega)
                    have g6 := (tw6.fr f12).mono (n' := 3 * n + 500) (m' := m + 3) (by omega) (by omega)
                    have kk : kind = 3 ∨ kind = 4 ∨ kind = 5 ∨ kind = 6 ∨ kind = 7 := by omega
                    rcases kk with rfl | rfl | rfl | rfl | rfl
                    · exact ⟨_, atI_nat (j := 0) rfl, g1⟩
                    · exact ⟨_, atI_nat (j := 1) rfl, g2⟩
                    · exact ⟨_, atI_nat (j := 2) rfl, g3⟩
                    · exact ⟨_, atI_nat (j := 3) rfl, g4⟩
                    · exact ⟨_, atI_nat (j := 4) rfl, g5⟩
                  have f312 := f311.trans f12
                  refine ⟨.ref a, rfl, .int at', rfl, at', rfl, sl_ok D12 (f312 _ _ na.1 na.2 ha3) (tx3.fr f312) fun s1 zs1 H13 D13 f13 e13 ts13 => ?_⟩
                  refine ⟨.ref S, rfl, .int kind, rfl, kind, 3, rfl, rfl, S, _, _, z, rfl, rfl, SqL.of (f13 S _ nS.1 nS.2.1 eS), ez2, (by show 1 ≤ sizeLine; decide), fun t2 h2 => ?_⟩
                  have n1 : s1 ≠ d ∧ s1 ≠ g := by
                    obtain ⟨gs, cs, n, h1, h2, _⟩ := D13.ex
                    exact ⟨ne_of e13 h1 (by intro z; cases z), ne_of e13 h2 (by intro z; cases z)⟩
                  have fz : Fr d g H13 (upd H13 t2 (.tup [z])) := .new h2
                  refine cat_ok (D13.same (same_upd h2)) (fz _ _ n1.1 n1.2 e13) upd_same ((ts13.mono (n' := n) (m' := m + 3) (Nat.le_refl _) (by omega)).fr fz) (Ths.cons (n := 3 * n + 500) ((tz.fr (f13.trans fz)).mono (Nat.le_refl _) (by omega)) (Ths.nil (n := 0) (m := m + 3))) (by omega) fun u3 zs3 H14 D14 f14 e14 ts14 => ?_
                  have n3 : u3 ≠ d ∧ u3 ≠ g := by
                    obtain ⟨gs, cs, n, h1, h2, _⟩ := D14.ex
                    exact ⟨ne_of e14 h1 (by intro z; cases z), ne_of e14 h2 (by intro z; cases z)⟩
                  have f314 : Fr d g H3 H14 := ((f312.trans f13).trans fz).trans f14
                  refine ⟨.ref a, rfl, .int at', rfl, at', 1, rfl, rfl, _, rfl, ?_⟩
                  dsimp only [tNoPart]
                  refine sl_ok D14 (f314 _ _ na.1 na.2 ha3) (tx3.fr f314) fun s4 zs4 H15 D15 f15 e15 ts15 => ?_
                  refine cat_ok D15 (f15 _ _ n3.1 n3.2 e14) e15 (ts14.fr f15) (ts15.mono (n' := n) (m' := m + 3) (Nat.le_refl _) (by omega)) (by omega) fun u5 zs5 H16 D16 f16 e16 ts16 => ?_
                  have n5 : u5 ≠ d ∧ u5 ≠ g := by
                    obtain ⟨gs, cs, n, h1, h2, _⟩ := D16.ex
                    exact ⟨ne_of e16 h1 (by intro z; cases z), ne_of e16 h2 (by intro z; cases z)⟩
                  exact q (.ref u5) H16 ((Thg.tup_of e16 n5.1 n5.2 ts16).mono (by omega) (by omega)) (D16.mono (by omega)) (((f03.trans f314).trans f15).trans f16)
              · have ki4 : PySem.W.kitOne K (.type t4) (.type "tuple") = some false := by
                  rw [← hb4]
                  exact isi_of "tuple" ht4 (by simp)
                refine ⟨.ref a, rfl, .int at', rfl, a, _, at', _, rfl, rfl, SqT.of ha3, ey, y, _, _, _, false, rfl, .ty "tuple", ty4, ki4, _, rfl, ?_⟩
                refine ⟨.ref a, rfl, .int at', rfl, at', rfl, sl_ok D3 ha3 tx3 fun s1 zs1 H4 D4 f4 e1 ts1 => ?_⟩
                refine ⟨.ref d, rfl, .int p, rfl, d, g, c, _, p, rfl, D4, by omega, p2, p13, fun o H5 to D5 f5 => ?_⟩
                refine ⟨(by show 1 ≤ sizeLine; decide), fun t2 h2 => ?_⟩
                have n1 : s1 ≠ d ∧ s1 ≠ g := by
                  obtain ⟨gs, cs, n, h1, h2, _⟩ := D4.ex
                  exact ⟨ne_of e1 h1 (by intro z; cases z), ne_of e1 h2 (by intro z; cases z)⟩
                have fz : Fr d g H4 (upd H5 t2 (.tup [o])) := f5.trans (.new h2)
                refine cat_ok (D5.same (same_upd h2)) (fz _ _ n1.1 n1.2 e1) upd_same ((ts1.mono (n' := n) (m' := m + 2) (Nat.le_refl _) (by omega)).fr fz) (Ths.cons (n := 400) ((to.fr (.new h2)).mono (Nat.le_refl _) (by omega)) (Ths.nil (n := 0) (m := m + 2))) (by omega) fun u3 zs3 H6 D6 f6 e3 ts3 => ?_
                have n3 : u3 ≠ d ∧ u3 ≠ g := by
                  obtain ⟨gs, cs, n, h1, h2, _⟩ := D6.ex
                  exact ⟨ne_of e3 h1 (by intro z; cases z), ne_of e3 h2 (by intro z; cases z)⟩
                have f36 : Fr d g H3 H6 := (f4.trans fz).trans f6
                refine ⟨.ref a, rfl, .int at', rfl, at', 1, rfl, rfl, _, rfl, ?_⟩
                dsimp only [tNoPart]
                refine sl_ok D6 (f36 _ _ na.1 na.2 ha3) (tx3.fr f36) fun s4 zs4 H7 D7 f7 e4 ts4 => ?_
                refine cat_ok D7 (f7 _ _ n3.1 n3.2 e3) e4 (ts3.fr f7) (ts4.mono (n' := n) (m' := m + 2) (Nat.le_refl _) (by omega)) (by omega) fun u5 zs5 H8 D8 f8 e5 ts5 => ?_
                have n5 : u5 ≠ d ∧ u5 ≠ g := by
                  obtain ⟨gs, cs, n, h1, h2, _⟩ := D8.ex
                  exact ⟨ne_of e5 h1 (by intro z; cases z), ne_of e5 h2 (by intro z; cases z)⟩
                exact q (.ref u5) H8 ((Thg.tup_of e5 n5.1 n5.2 ts5).mono (by omega) (by omega)) (D8.mono (by omega)) (((f03.trans f36).trans f7).trans f8)
    · have ki : PySem.W.kitOne K (.type t) (.type "tuple") = some false := by
        rw [← hb]
        exact isi_of "tuple" ht (by simp)
      refine ⟨x, rfl, x, _, _, _, false, rfl, .ty "tuple", ty, ki, _, rfl, ?_⟩
      refine ⟨.ref d, rfl, .int p, rfl, d, g, c, _, p, rfl, D1, by omega, p2, p13, fun o H2 to D2 f2 => ?_⟩
      refine ⟨x, rfl, (by show 2 ≤ sizeLine; decide), fun L hL => ?_⟩
      have zz : Fr d g H (upd H2 L (.lst [o, x])) := ((f1).trans f2).trans (.new hL)
      by_cases hk4 : 4 < kind
      · refine ⟨.int kind, rfl, kind, 4, rfl, rfl, .inr ⟨_, rfl, L, _, _, x, rfl, rfl, SqL.of upd_same, ?_, ?_⟩⟩
        · rw [decide_eq_true hk4]
          exact atI_nat (j := 1) rfl
        · exact q x _ (((tx.fr zz).mono (by omega) (by omega))) ((D2.same (same_upd hL)).mono (by omega)) zz
      · refine ⟨.int kind, rfl, kind, 4, rfl, rfl, .inr ⟨_, rfl, L, _, _, o, rfl, rfl, SqL.of upd_same, ?_, ?_⟩⟩
        · rw [decide_eq_false hk4]
          exact atI_zero
        · exact q o _ (((to.fr (.new hL)).mono (by omega) (by omega))) ((D2.same (same_upd hL)).mono (by omega)) zz
theorem Thg.good {d g : Addr} {n m : Nat} {H : Hp} {x : V} (h : Thg d g n m H x) (hn : n ≤ 100000) (hm : m ≤ 64) : ∃ dd, Dq H x dd ∧ dd.showable = true ∧ dd.depth ≤ 64 ∧ dd.shown.length ≤ sizeLine ∧ ∀ ds, dd = .tuple ds → ds.length ≤ 100000 := by
  obtain ⟨dd, h1, h2⟩ := h
  refine ⟨dd, h1.same cut_same, h2.1, Nat.le_trans h2.2.2.2 hm, h2.shown hn, fun ds e => ?_⟩
  subst e
  exact Nat.le_trans h2.of_tup.len hn
theorem ok_law (T : Tx K mg A) : LawOk P w K mg A.f_law := by
  refine law_at (k := 4) T.d_law sc_law ⟨rfl, by decide, by decide⟩ fun base t H a ns cdv hlen hm hS hr => ?_
  have G__law_deck : FnOk P w K mg base CX0 1 A.f__law_deck A.d__law_deck ["_law_script"] (spDeck K) := ok__law_deck T
  have G__law_next : FnOk P w K mg base CX0 1 A.f__law_next A.d__law_next ["_law_deck_here", "_law_many"] spNext := ok__law_next T
  have G__law_prime : FnOk P w K mg base CX0 2 A.f__law_prime A.d__law_prime ["_law_deck_here"] spPrm := ok__law_prime T
  have G__law_row : FnOk P w K mg base CX0 3 A.f__law_row A.d__law_row ["_law_deck_here", "_law_p", "_law_posts"] spDrawn := ok__law_row T
  have G__law_bent : FnOk P w K mg base CX0 3 A.f__law_bent A.d__law_bent ["_law_deck_here", "_law_p", "_law_row_here"] spBent := ok__law_bent T
  have G__law_odd : FnOk P w K mg base CX0 2 A.f__law_odd A.d__law_odd ["_law_deck_here", "_law_p"] spOdd := ok__law_odd T
  have G__law_is_row : FnOk P w K mg base CX0 2 A.f__law_is_row A.d__law_is_row ["_law_p", "_law_posts", "_law_thing"] spRowL := ok__law_is_row T
  have G_is_row : FnOk P w K mg base CX0 4 A.f_is_row A.d_is_row ["p", "posts", "thing"] spRow := ok_is_row T
  refine ⟨_, (pss_cons (ps_set (i := 1) sc_law.nd rfl (.inl rfl) (pe_call G__law_deck (hr.mono (by decide)) (by rfl) T.d__law_deck.g T.d__law_deck.F.kp T.d__law_deck.b .nil pass0 (pa_cons (pv 0) pa_nil)))
        (pss_cons (ps_for PassesOwn.never rfl (pi_range1 (by rfl) T.b_range (pa_cons pe_int pa_nil)) (pg_name (i := 2) sc_law.nd rfl (.inl rfl))
        (pss_cons (ps_set (i := 3) sc_law.nd rfl (.inl rfl) (pe_call G__law_prime (hr.mono (by decide)) (by rfl) T.d__law_prime.g T.d__law_prime.F.kp T.d__law_prime.b .nil pass0 (pa_cons (pv 1) pa_nil)))
        (pss_cons (ps_set (i := 4) sc_law.nd rfl (.inl rfl) (pe_ix ix_list (pe_lst (pa_cons (pe_call G__law_next (hr.mono (by decide)) (by rfl) T.d__law_next.g T.d__law_next.F.kp T.d__law_next.b .nil pass0 (pa_cons (pv 1) (pa_cons pe_int pa_nil))) (pa_cons (pe_call G__law_next (hr.mono (by decide)) (by rfl) T.d__law_next.g T.d__law_next.F.kp T.d__law_next.b .nil pass0 (pa_cons (pv 1) (pa_cons pe_int pa_nil))) pa_nil))) (pe_call G__law_next (hr.mono (by decide)) (by rfl) T.d__law_next.g T.d__law_next.F.kp T.d__law_next.b .nil pass0 (pa_cons (pv 1) (pa_cons pe_int pa_nil))) (fun _ _ => rfl)))
        (pss_cons (ps_set (i := 5) sc_law.nd rfl (.inl rfl) (pe_call G__law_row (hr.mono (by decide)) (by rfl) T.d__law_row.g T.d__law_row.F.kp T.d__law_row.b .nil pass0 (pa_cons (pv 1) (pa_cons (pv 3) (pa_cons (pv 4) pa_nil)))))
        (pss_cons (ps_set (i := 6) sc_law.nd rfl (.inl rfl) (pe_call G__law_bent (hr.mono (by decide)) (by rfl) T.d__law_bent.g T.d__law_bent.F.kp T.d__law_bent.b .nil pass0 (pa_cons (pv 1) (pa_cons (pv 3) (pa_cons (pv 5) pa_nil)))))
        (pss_cons (ps_set (i := 7) sc_law.nd rfl (.inl rfl) (pe_call G__law_bent (hr.mono (by decide)) (by rfl) T.d__law_bent.g T.d__law_bent.F.kp T.d__law_bent.b .nil pass0 (pa_cons (pv 1) (pa_cons (pv 3) (pa_cons (pv 6) pa_nil)))))
        (pss_cons (ps_for PassesOwn.never rfl (pi_list (pe_lst (pa_cons (pv 5) (pa_cons (pv 6) (pa_cons (pv 7) (pa_cons (pe_call G__law_bent (hr.mono (by decide)) (by rfl) T.d__law_bent.g T.d__law_bent.F.kp T.d__law_bent.b .nil pass0 (pa_cons (pv 1) (pa_cons (pv 3) (pa_cons (pv 7) pa_nil)))) (pa_cons (pe_call G__law_odd (hr.mono (by decide)) (by rfl) T.d__law_odd.g T.d__law_odd.F.kp T.d__law_odd.b .nil pass0 (pa_cons (pv 1) (pa_cons (pv 3) pa_nil))) pa_nil))))))) (pg_name (i := 8) sc_law.nd rfl (.inl rfl))
        (pss_cons (ps_set (i := 9) sc_law.nd rfl (.inl rfl) (pe_callB (call_reprQ hm rfl (ru80 hr)) (by rfl) T.b_repr PyProof.Rows.boot_repr (pa_cons (pv 8) pa_nil)))
        (pss_cons (ps_for PassesOwn.never rfl (pi_list (pe_lst (pa_cons (pv 4) (pa_cons (pe_callB (call_min2 rfl) (by rfl) T.b_min PyProof.Rows.boot_min (pa_cons pe_int (pa_cons (pe_op op_add (pv 4) pe_int) pa_nil))) (pa_cons (pe_callB (call_max2 rfl) (by rfl) T.b_max PyProof.Rows.boot_max (pa_cons pe_int (pa_cons (pe_op op_sub (pv 4) pe_int) pa_nil))) pa_nil))))) (pg_name (i := 10) sc_law.nd rfl (.inl rfl))
        (pss_one (ps_for PassesOwn.never rfl (pi_list (pe_lst (pa_cons (pv 3) (pa_cons pe_int (pa_cons pe_int pa_nil))))) (pg_name (i := 11) sc_law.nd rfl (.inl rfl))
        (pss_cons (ps_set (i := 12) sc_law.nd rfl (.inl rfl) (pe_call G_is_row hr (by rfl) T.d_is_row.g T.d_is_row.F.kp T.d_is_row.b .nil pass0 (pa_cons (pv 11) (pa_cons (pv 10) (pa_cons (pv 8) pa_nil)))))
        (pss_one (ps_if (PW.pt (pw_or (pt_not (pt_val (pe_callB call_isi (by rfl) T.b_isinstance PyProof.Rows.boot_isinstance (pa_cons (pv 12) (pa_cons (pe_bltn (v := .ty "bool") (by rfl) T.b_bool PyProof.Rows.boot_bool rfl) pa_nil))))) (pw_or1 (pt_cmpR op_ne (pv 12) (pe_call G__law_is_row (hr.mono (by decide)) (by rfl) T.d__law_is_row.g T.d__law_is_row.F.kp T.d__law_is_row.b .nil pass0 (pa_cons (pv 11) (pa_cons (pv 10) (pa_cons (pv 8) pa_nil)))) (nomark _)))))
        (pss_one (ps_ret pe_bl))
        pss_nil))))))
        (pss_one (ps_if (pt_cmpR op_ne (pe_callB (call_reprQ hm rfl (ru80 hr)) (by rfl) T.b_repr PyProof.Rows.boot_repr (pa_cons (pv 8) pa_nil)) (pv 9) (nomark _))
        (pss_one (ps_ret pe_bl))
        pss_nil)))))
        (pss_one (ps_if (pt_cmpR op_isnot_bl (pe_call G_is_row hr (by rfl) T.d_is_row.g T.d_is_row.F.kp T.d_is_row.b .nil pass0 (pa_cons (pv 3) (pa_cons (pv 4) (pa_cons (pv 5) pa_nil)))) pe_bl (nomark _))
        (pss_one (ps_ret pe_bl))
        pss_nil)))))))))
        (pss_one (ps_ret pe_bl)))), ?_⟩
  refine ⟨.ref a, rfl, a, ns, rfl, hS, hlen, fun d g c H0 s0 nd ng nc D0 => ?_⟩
  refine ⟨8, rfl, by decide, by decide, for_range (n := 8) (fun i σ H' => ∃ v2 v3 v4 v5 v6 v7 v8 v9 v10 v11 v12, σ = [some (.ref a), some (.ref d), v2, v3, v4, v5, v6, v7, v8, v9, v10, v11, v12] ∧ Dk d g c (200 * i) H') ⟨_, _, _, _, _, _, _, _, _, _, _, rfl, D0.mono (by omega)⟩ ?_ ?_⟩
  · rintro i σ H1 hi ⟨v2, v3, v4, v5, v6, v7, v8, v9, v10, v11, v12, rfl, D1⟩
    -- the prime, the posts
    refine ⟨.ref d, rfl, d, g, c, _, rfl, D1, by omega, fun p H2 hp D2 f2 => ?_⟩
    obtain ⟨p2, p13⟩ := prs_bd p hp
    refine ⟨.ref d, rfl, d, g, c, _, 4, rfl, by decide, by decide, D2, by omega, fun r1 H3 a0 a1 D3 f3 => ?_⟩
    refine ⟨.ref d, rfl, d, g, c, _, 21, rfl, by decide, by decide, D3, by omega, fun r2 H4 b0 b1 D4 f4 => ?_⟩
    refine ⟨(by show 2 ≤ sizeLine; decide), fun L1 hL1 => ?_⟩
    have nL1 := D4.nd hL1
    refine ⟨.ref d, rfl, d, g, c, _, 2, rfl, by decide, by decide, D4.same (same_upd hL1), by omega, fun r3 H5 c0 c1 D5 f5 => ?_⟩
    have eL1 := f5 L1 _ nL1.1 nL1.2.1 upd_same
    obtain ⟨posts, q0, q1, eq⟩ : ∃ posts : Int, 0 ≤ posts ∧ posts ≤ 20 ∧ atI [V.int r1, V.int r2] r3 = some (.int posts) := by
      have z : r3 = 0 ∨ r3 = 1 := by omega
      rcases z with rfl | rfl
      · exact ⟨r1, a0, by omega, atI_zero⟩
      · exact ⟨r2, b0, by omega, atI_nat (j := 1) rfl⟩
    refine ⟨L1, _, r3, _, rfl, rfl, SqL.of eL1, eq, ?_⟩
    -- the row
    refine ⟨.ref d, rfl, .int p, rfl, .int posts, rfl, d, g, c, _, p, posts, rfl, D5, by omega, p2, p13, q0, q1, fun rw' xs ds H6 hq hG hall hl er n1 n2 D6 f6 => ?_⟩
    have tr : Thg d g 260 2 H6 (.ref rw') := ⟨.tuple ds, .tup (cut_at n1 n2 er) hq, (Gd.tup hG).mono (by omega) (Nat.le_refl _)⟩
    have dr : Dq (cut d g H6) (.ref rw') (.tuple ds) := .tup (cut_at n1 n2 er) hq
    have lds : ds.length ≤ 100000 := by omega
    -- bent, again
    refine ⟨.ref d, rfl, .int p, rfl, .ref rw', rfl, d, g, c, _, p, _, 260, 2, rfl, D6, by omega, p2, p13, tr, by decide, fun x1 H7 t1 D7 f7 => ?_⟩
    refine ⟨.ref d, rfl, .int p, rfl, x1, rfl, d, g, c, _, p, _, 3300, 6, rfl, D7, by omega, p2, p13, t1, by decide, fun x2 H8 t2 D8 f8 => ?_⟩
    -- the list
    refine ⟨.ref rw', rfl, x1, rfl, x2, rfl, .ref d, rfl, .int p, rfl, x2, rfl, d, g, c, _, p, _, 18500, 10, rfl, D8, by omega, p2, p13, t2, by decide, fun x3 H9 t3 D9 f9 => ?_⟩
    refine ⟨.ref d, rfl, .int p, rfl, d, g, c, _, p, rfl, D9, by omega, p2, p13, fun x4 H10 t4 D10 f10 => ?_⟩
    refine ⟨(by show 5 ≤ sizeLine; decide), fun Z hZ => ?_⟩
    have f11 : Fr d g H10 (upd H10 Z (.lst [.ref rw', x1, x2, x3, x4])) := .new hZ
    have D11 := D10.same (same_upd (o := .lst [.ref rw', x1, x2, x3, x4]) hZ)
    have eZ : upd H10 Z (.lst [.ref rw', x1, x2, x3, x4]) Z = some (.lst [.ref rw', x1, x2, x3, x4]) := upd_same
    generalize upd H10 Z (.lst [.ref rw', x1, x2, x3, x4]) = H11 at *
    have good : ∀ x ∈ [.ref rw', x1, x2, x3, x4], ∃ dd, Dq H11 x dd ∧ dd.showable = true ∧ dd.depth ≤ 64 ∧ dd.shown.length ≤ sizeLine ∧ ∀ ds, dd = .tuple ds → ds.length ≤ 100000 := by
      intro x hx
      simp only [List.mem_cons, List.not_mem_nil, or_false] at hx
      rcases hx with rfl | rfl | rfl | rfl | rfl
      · exact (tr.fr ((((f7.trans f8).trans f9).trans f10).trans f11)).good (by decide) (by decide)
      · exact (t1.fr (((f8.trans f9).trans f10).trans f11)).good (by decide) (by decide)
      · exact (t2.fr ((f9.trans f10).trans f11)).good (by decide) (by decide)
      · exact (t3.fr (f10.trans f11)).good (by decide) (by decide)
      · exact (t4.fr f11).good (by decide) (by decide)
    have dr11 : Dq H11 (.ref rw') (.tuple ds) := (dr.same ((((f7.trans f8).trans f9).trans f10).trans f11).cut).same cut_same
    refine ⟨Z, rfl, ⟨_, SqL.of eZ⟩, for_list (xs := [.ref rw', x1, x2, x3, x4]) (fun _ σ H' => ∃ v8 v9 v10 v11 v12, σ = [some (.ref a), some (.ref d), some (.int (0 + (i : Nat))), some (.int p), some (.int posts), some (.ref rw'), some x1, some x2, v8, v9, v10, v11, v12] ∧ Same H11 H') ⟨_, _, _, _, _, rfl, Same.refl _⟩ (fun _ σ H' _ h => by obtain ⟨_, _, _, _, _, _, h⟩ := h; exact SqL.of (h _ _ eZ)) ?_ ?_⟩
    · rintro j x σ H12 hj ⟨v8, v9, v10, v11, v12, rfl, s12⟩
      obtain ⟨dd, hd, g1, g2, g3, g4⟩ := good x (List.mem_of_getElem? hj)
      refine ⟨x, rfl, x, dd, rfl, hd.same s12, g1, g2, g3, ?_⟩
      refine ⟨.int posts, rfl, .int posts, rfl, posts, 1, rfl, rfl, 20, posts + 1, rfl, .int posts, rfl, posts, 1, rfl, rfl, 0, posts - 1, rfl, (by show 3 ≤ sizeLine; decide), fun M hM => ?_⟩
      refine ⟨M, rfl, ⟨_, SqL.of upd_same⟩, for_list (xs := [posts, if posts + 1 < 20 then posts + 1 else 20, if posts - 1 > 0 then posts - 1 else 0].map V.int) (fun _ σ H' => ∃ v10 v11 v12, σ = [some (.ref a), some (.ref d), some (.int (0 + (i : Nat))), some (.int p), some (.int posts), some (.ref rw'), some x1, some x2, some x, some (.str dd.shown), v10, v11, v12] ∧ Same H11 H' ∧ H' M = some (.lst ([posts, if posts + 1 < 20 then posts + 1 else 20, if posts - 1 > 0 then posts - 1 else 0].map V.int))) ⟨_, _, _, rfl, s12.trans (same_upd hM), upd_same⟩ (fun _ σ H' _ h => by obtain ⟨_, _, _, _, _, h⟩ := h; exact SqL.of h) ?_ ?_⟩
      · rintro j2 y σ H13 hj2 ⟨v10, v11, v12, rfl, s13, eM⟩
        obtain ⟨many, rfl⟩ := int_of_map hj2
        refine ⟨.int p, rfl, (by show 3 ≤ sizeLine; decide), fun M2 hM2 => ?_⟩
        have nMM : M ≠ M2 := ne_of_none eM hM2
        refine ⟨M2, rfl, ⟨_, SqL.of upd_same⟩, for_list (xs := [p, 2, 13].map V.int) (fun _ σ H' => ∃ v11 v12, σ = [some (.ref a), some (.ref d), some (.int (0 + (i : Nat))), some (.int p), some (.int posts), some (.ref rw'), some x1, some x2, some x, some (.str dd.shown), some (.int many), v11, v12] ∧ Same (upd H13 M2 (.lst ([p, 2, 13].map V.int))) H') ⟨_, _, rfl, Same.refl _⟩ (fun _ σ H' _ h => by obtain ⟨_, _, _, h⟩ := h; exact SqL.of (h _ _ upd_same)) ?_ ?_⟩
        · rintro j3 z σ H14 hj3 ⟨v11, v12, rfl, s14⟩
          obtain ⟨pp, rfl⟩ := int_of_map hj3
          have s15 : Same H11 H14 := (s13.trans (same_upd hM2)).trans s14
          refine ⟨.int pp, rfl, .int many, rfl, x, rfl, pp, many, x, dd, rfl, hd.same s15, g4, fun H16 s16 => ?_⟩
          refine ⟨.bl _, rfl, .bl _, _, _, _, true, rfl, .ty "bool", .base (.bl _), kit_ty (by decide +kernel), _, rfl, ?_⟩
          exact ⟨.bl _, rfl, .int pp, rfl, .int many, rfl, x, rfl, pp, many, x, dd, rfl, hd.same (s15.trans s16), rfl, false, nb_f rfl, _, _, rfl, s14.trans s16⟩
        · rintro σ H14 ⟨v11, v12, rfl, s14⟩
          have s15 : Same H13 H14 := (same_upd hM2).trans s14
          exact ⟨_, _, _, rfl, s13.trans s15, s15 _ _ eM⟩
      · rintro σ H13 ⟨v10, v11, v12, rfl, s13, eM⟩
        exact ⟨x, rfl, x, dd, rfl, hd.same s13, g1, g2, g3, .str _, rfl, rfl, false, nb_f rfl, _, _, _, _, _, rfl, s13⟩
    · rintro σ H12 ⟨v8, v9, v10, v11, v12, rfl, s12⟩
      have hrow : isRowD p posts (.tuple ds) = true := by
        show (decide ((ds.length : Int) = posts) && ds.all (isPairD p)) = true
        rw [hall, decide_eq_true (by omega)]
        rfl
      refine ⟨.int p, rfl, .int posts, rfl, .ref rw', rfl, p, posts, .ref rw', .tuple ds, rfl, dr11.same s12, fun es e => by cases e; exact lds, fun H13 s13 => ?_⟩
      exact ⟨_, true, rfl, rfl, false, nb_f hrow, _, _, _, _, _, _, _, _, _, _, _, rfl, (D11.same (s12.trans s13)).mono (by omega)⟩
  · rintro σ H' ⟨v2, v3, v4, v5, v6, v7, v8, v9, v10, v11, v12, rfl, D1⟩
    rfl
end
/-! what the top has written -/
theorem all_mk {l : PySem.W.OpenLaw} {w : World} {K : PySem.W.Frag} {h : Heap} {mg : Str → Option Value} {fa : Addr} (X : K.In h) (G : h.Ns mainGlobals mg) (hfa : mg "law" = some (.ref fa))
    {f_is_whole : Addr} {od_is_whole an_is_whole : Option Addr} {sl_is_whole : Array (Option Value)} {oc_is_whole kV_is_whole dc_is_whole pm_is_whole cd_is_whole ct_is_whole : Value}
    {f_is_round : Addr} {od_is_round an_is_round : Option Addr} {sl_is_round : Array (Option Value)} {oc_is_round kV_is_round dc_is_round pm_is_round cd_is_round ct_is_round : Value}
    {f_is_pair : Addr} {od_is_pair an_is_pair : Option Addr} {sl_is_pair : Array (Option Value)} {oc_is_pair kV_is_pair dc_is_pair pm_is_pair cd_is_pair ct_is_pair : Value}
    {f_is_row : Addr} {od_is_row an_is_row : Option Addr} {sl_is_row : Array (Option Value)} {oc_is_row kV_is_row dc_is_row pm_is_row cd_is_row ct_is_row : Value}
    {f__law_deck : Addr} {od__law_deck an__law_deck : Option Addr} {sl__law_deck : Array (Option Value)} {oc__law_deck kV__law_deck dc__law_deck pm__law_deck cd__law_deck ct__law_deck : Value}
    {f__law_next : Addr} {od__law_next an__law_next : Option Addr} {sl__law_next : Array (Option Value)} {oc__law_next kV__law_next dc__law_next pm__law_next cd__law_next ct__law_next : Value}
    {f__law_prime : Addr} {od__law_prime an__law_prime : Option Addr} {sl__law_prime : Array (Option Value)} {oc__law_prime kV__law_prime dc__law_prime pm__law_prime cd__law_prime ct__law_prime : Value}
    {f__law_numbers : Addr} {od__law_numbers an__law_numbers : Option Addr} {sl__law_numbers : Array (Option Value)} {oc__law_numbers kV__law_numbers dc__law_numbers pm__law_numbers cd__law_numbers ct__law_numbers : Value}
    {f__law_row : Addr} {od__law_row an__law_row : Option Addr} {sl__law_row : Array (Option Value)} {oc__law_row kV__law_row dc__law_row pm__law_row cd__law_row ct__law_row : Value}
    {f__law_is_number : Addr} {od__law_is_number an__law_is_number : Option Addr} {sl__law_is_number : Array (Option Value)} {oc__law_is_number kV__law_is_number dc__law_is_number pm__law_is_number cd__law_is_number ct__law_is_number : Value}
    {f__law_is_row : Addr} {od__law_is_row an__law_is_row : Option Addr} {sl__law_is_row : Array (Option Value)} {oc__law_is_row kV__law_is_row dc__law_is_row pm__law_is_row cd__law_is_row ct__law_is_row : Value}
    {f__law_odd : Addr} {od__law_odd an__law_odd : Option Addr} {sl__law_odd : Array (Option Value)} {oc__law_odd kV__law_odd dc__law_odd pm__law_odd cd__law_odd ct__law_odd : Value}
    {f__law_bent : Addr} {od__law_bent an__law_bent : Option Addr} {sl__law_bent : Array (Option Value)} {oc__law_bent kV__law_bent dc__law_bent pm__law_bent cd__law_bent ct__law_bent : Value}
    {f_law : Addr} {od_law an_law : Option Addr} {sl_law : Array (Option Value)} {oc_law kV_law dc_law pm_law cd_law ct_law : Value}
    (a_is_whole : PySem.W.nsIn K mainGlobals "is_whole" = some (some (.ref f_is_whole))) (l_is_whole : K.lookup f_is_whole = some ⟨oc_is_whole, od_is_whole, .func (PySem.W.fnOf "is_whole" "is_whole" (defArgs s_is_whole) (defBody s_is_whole) (defScope s_is_whole) .none kV_is_whole dc_is_whole pm_is_whole an_is_whole cd_is_whole ct_is_whole), sl_is_whole⟩) (c_is_whole : PySem.W.codeIn K cd_is_whole "is_whole" = true) (k_is_whole : PySem.W.keepIn K (.ref f_is_whole) = true)
    (a_is_round : PySem.W.nsIn K mainGlobals "is_round" = some (some (.ref f_is_round))) (l_is_round : K.lookup f_is_round = some ⟨oc_is_round, od_is_round, .func (PySem.W.fnOf "is_round" "is_round" (defArgs s_is_round) (defBody s_is_round) (defScope s_is_round) .none kV_is_round dc_is_round pm_is_round an_is_round cd_is_round ct_is_round), sl_is_round⟩) (c_is_round : PySem.W.codeIn K cd_is_round "is_round" = true) (k_is_round : PySem.W.keepIn K (.ref f_is_round) = true)
    (a_is_pair : PySem.W.nsIn K mainGlobals "is_pair" = some (some (.ref f_is_pair))) (l_is_pair : K.lookup f_is_pair = some ⟨oc_is_pair, od_is_pair, .func (PySem.W.fnOf "is_pair" "is_pair" (defArgs s_is_pair) (defBody s_is_pair) (defScope s_is_pair) .none kV_is_pair dc_is_pair pm_is_pair an_is_pair cd_is_pair ct_is_pair), sl_is_pair⟩) (c_is_pair : PySem.W.codeIn K cd_is_pair "is_pair" = true) (k_is_pair : PySem.W.keepIn K (.ref f_is_pair) = true)
    (a_is_row : PySem.W.nsIn K mainGlobals "is_row" = some (some (.ref f_is_row))) (l_is_row : K.lookup f_is_row = some ⟨oc_is_row, od_is_row, .func (PySem.W.fnOf "is_row" "is_row" (defArgs s_is_row) (defBody s_is_row) (defScope s_is_row) .none kV_is_row dc_is_row pm_is_row an_is_row cd_is_row ct_is_row), sl_is_row⟩) (c_is_row : PySem.W.codeIn K cd_is_row "is_row" = true) (k_is_row : PySem.W.keepIn K (.ref f_is_row) = true)
    (a__law_deck : PySem.W.nsIn K mainGlobals "_law_deck" = some (some (.ref f__law_deck))) (l__law_deck : K.lookup f__law_deck = some ⟨oc__law_deck, od__law_deck, .func (PySem.W.fnOf "_law_deck" "_law_deck" (defArgs s__law_deck) (defBody s__law_deck) (defScope s__law_deck) .none kV__law_deck dc__law_deck pm__law_deck an__law_deck cd__law_deck ct__law_deck), sl__law_deck⟩) (c__law_deck : PySem.W.codeIn K cd__law_deck "_law_deck" = true) (k__law_deck : PySem.W.keepIn K (.ref f__law_deck) = true)
    (a__law_next : PySem.W.nsIn K mainGlobals "_law_next" = some (some (.ref f__law_next))) (l__law_next : K.lookup f__law_next = some ⟨oc__law_next, od__law_next, .func (PySem.W.fnOf "_law_next" "_law_next" (defArgs s__law_next) (defBody s__law_next) (defScope s__law_next) .none kV__law_next dc__law_next pm__law_next an__law_next cd__law_next ct__law_next), sl__law_next⟩) (c__law_next : PySem.W.codeIn K cd__law_next "_law_next" = true) (k__law_next : PySem.W.keepIn K (.ref f__law_next) = true)
    (a__law_prime : PySem.W.nsIn K mainGlobals "_law_prime" = some (some (.ref f__law_prime))) (l__law_prime : K.lookup f__law_prime = some ⟨oc__law_prime, od__law_prime, .func (PySem.W.fnOf "_law_prime" "_law_prime" (defArgs s__law_prime) (defBody s__law_prime) (defScope s__law_prime) .none kV__law_prime dc__law_prime pm__law_prime an__law_prime cd__law_prime ct__law_prime), sl__law_prime⟩) (c__law_prime : PySem.W.codeIn K cd__law_prime "_law_prime" = true) (k__law_prime : PySem.W.keepIn K (.ref f__law_prime) = true)
    (a__law_numbers : PySem.W.nsIn K mainGlobals "_law_numbers" = some (some (.ref f__law_numbers))) (l__law_numbers : K.lookup f__law_numbers = some ⟨oc__law_numbers, od__law_numbers, .func (PySem.W.fnOf "_law_numbers" "_law_numbers" (defArgs s__law_numbers) (defBody s__law_numbers) (defScope s__law_numbers) .none kV__law_numbers dc__law_numbers pm__law_numbers an__law_numbers cd__law_numbers ct__law_numbers), sl__law_numbers⟩) (c__law_numbers : PySem.W.codeIn K cd__law_numbers "_law_numbers" = true) (k__law_numbers : PySem.W.keepIn K (.ref f__law_numbers) = true)
    (a__law_row : PySem.W.nsIn K mainGlobals "_law_row" = some (some (.ref f__law_row))) (l__law_row : K.lookup f__law_row = some ⟨oc__law_row, od__law_row, .func (PySem.W.fnOf "_law_row" "_law_row" (defArgs s__law_row) (defBody s__law_row) (defScope s__law_row) .none kV__law_row dc__law_row pm__law_row an__law_row cd__law_row ct__law_row), sl__law_row⟩) (c__law_row : PySem.W.codeIn K cd__law_row "_law_row" = true) (k__law_row : PySem.W.keepIn K (.ref f__law_row) = true)
    (a__law_is_number : PySem.W.nsIn K mainGlobals "_law_is_number" = some (some (.ref f__law_is_number))) (l__law_is_number : K.lookup f__law_is_number = some ⟨oc__law_is_number, od__law_is_number, .func (PySem.W.fnOf "_law_is_number" "_law_is_number" (defArgs s__law_is_number) (defBody s__law_is_number) (defScope s__law_is_number) .none kV__law_is_number dc__law_is_number pm__law_is_number an__law_is_number cd__law_is_number ct__law_is_number), sl__law_is_number⟩) (c__law_is_number : PySem.W.codeIn K cd__law_is_number "_law_is_number" = true) (k__law_is_number : PySem.W.keepIn K (.ref f__law_is_number) = true)
    (a__law_is_row : PySem.W.nsIn K mainGlobals "_law_is_row" = some (some (.ref f__law_is_row))) (l__law_is_row : K.lookup f__law_is_row = some ⟨oc__law_is_row, od__law_is_row, .func (PySem.W.fnOf "_law_is_row" "_law_is_row" (defArgs s__law_is_row) (defBody s__law_is_row) (defScope s__law_is_row) .none kV__law_is_row dc__law_is_row pm__law_is_row an__law_is_row cd__law_is_row ct__law_is_row), sl__law_is_row⟩) (c__law_is_row : PySem.W.codeIn K cd__law_is_row "_law_is_row" = true) (k__law_is_row : PySem.W.keepIn K (.ref f__law_is_row) = true)
    (a__law_odd : PySem.W.nsIn K mainGlobals "_law_odd" = some (some (.ref f__law_odd))) (l__law_odd : K.lookup f__law_odd = some ⟨oc__law_odd, od__law_odd, .func (PySem.W.fnOf "_law_odd" "_law_odd" (defArgs s__law_odd) (defBody s__law_odd) (defScope s__law_odd) .none kV__law_odd dc__law_odd pm__law_odd an__law_odd cd__law_odd ct__law_odd), sl__law_odd⟩) (c__law_odd : PySem.W.codeIn K cd__law_odd "_law_odd" = true) (k__law_odd : PySem.W.keepIn K (.ref f__law_odd) = true)
    (a__law_bent : PySem.W.nsIn K mainGlobals "_law_bent" = some (some (.ref f__law_bent))) (l__law_bent : K.lookup f__law_bent = some ⟨oc__law_bent, od__law_bent, .func (PySem.W.fnOf "_law_bent" "_law_bent" (defArgs s__law_bent) (defBody s__law_bent) (defScope s__law_bent) .none kV__law_bent dc__law_bent pm__law_bent an__law_bent cd__law_bent ct__law_bent), sl__law_bent⟩) (c__law_bent : PySem.W.codeIn K cd__law_bent "_law_bent" = true) (k__law_bent : PySem.W.keepIn K (.ref f__law_bent) = true)
    (a_law : PySem.W.nsIn K mainGlobals "law" = some (some (.ref f_law))) (l_law : K.lookup f_law = some ⟨oc_law, od_law, .func (PySem.W.fnOf "law" "law" (defArgs s_law) (defBody s_law) (defScope s_law) .none kV_law dc_law pm_law an_law cd_law ct_law), sl_law⟩) (c_law : PySem.W.codeIn K cd_law "law" = true) (k_law : PySem.W.keepIn K (.ref f_law) = true)
    (z_abs : PySem.W.nsIn K mainGlobals "abs" = some none)
    (z_all : PySem.W.nsIn K mainGlobals "all" = some none)
    (z_bool : PySem.W.nsIn K mainGlobals "bool" = some none)
    (z_int : PySem.W.nsIn K mainGlobals "int" = some none)
    (z_isinstance : PySem.W.nsIn K mainGlobals "isinstance" = some none)
    (z_len : PySem.W.nsIn K mainGlobals "len" = some none)
    (z_list : PySem.W.nsIn K mainGlobals "list" = some none)
    (z_max : PySem.W.nsIn K mainGlobals "max" = some none)
    (z_min : PySem.W.nsIn K mainGlobals "min" = some none)
    (z_range : PySem.W.nsIn K mainGlobals "range" = some none)
    (z_repr : PySem.W.nsIn K mainGlobals "repr" = some none)
    (z_tuple : PySem.W.nsIn K mainGlobals "tuple" = some none) :
    LawOk l.prog w K mg fa := by
  have e := hfa.symm.trans (PySem.W.mg_of X G a_law)
  cases e
  have F_is_whole := fun_mk (st := s_is_whole) l_is_whole c_is_whole k_is_whole
  have b_is_whole := F_is_whole.binds (ps := ["thing"]) fun _ _ _ _ _ _ us hl => match us, hl with | [_], _ => rfl
  have F_is_round := fun_mk (st := s_is_round) l_is_round c_is_round k_is_round
  have b_is_round := F_is_round.binds (ps := ["p", "thing"]) fun _ _ _ _ _ _ us hl => match us, hl with | [_, _], _ => rfl
  have F_is_pair := fun_mk (st := s_is_pair) l_is_pair c_is_pair k_is_pair
  have b_is_pair := F_is_pair.binds (ps := ["p", "thing"]) fun _ _ _ _ _ _ us hl => match us, hl with | [_, _], _ => rfl
  have F_is_row := fun_mk (st := s_is_row) l_is_row c_is_row k_is_row
  have b_is_row := F_is_row.binds (ps := ["p", "posts", "thing"]) fun _ _ _ _ _ _ us hl => match us, hl with | [_, _, _], _ => rfl
  have F__law_deck := fun_mk (st := s__law_deck) l__law_deck c__law_deck k__law_deck
  have b__law_deck := F__law_deck.binds (ps := ["_law_script"]) fun _ _ _ _ _ _ us hl => match us, hl with | [_], _ => rfl
  have F__law_next := fun_mk (st := s__law_next) l__law_next c__law_next k__law_next
  have b__law_next := F__law_next.binds (ps := ["_law_deck_here", "_law_many"]) fun _ _ _ _ _ _ us hl => match us, hl with | [_, _], _ => rfl
  have F__law_prime := fun_mk (st := s__law_prime) l__law_prime c__law_prime k__law_prime
  have b__law_prime := F__law_prime.binds (ps := ["_law_deck_here"]) fun _ _ _ _ _ _ us hl => match us, hl with | [_], _ => rfl
  have F__law_numbers := fun_mk (st := s__law_numbers) l__law_numbers c__law_numbers k__law_numbers
  have b__law_numbers := F__law_numbers.binds (ps := ["_law_deck_here", "_law_p", "_law_many"]) fun _ _ _ _ _ _ us hl => match us, hl with | [_, _, _], _ => rfl
  have F__law_row := fun_mk (st := s__law_row) l__law_row c__law_row k__law_row
  have b__law_row := F__law_row.binds (ps := ["_law_deck_here", "_law_p", "_law_posts"]) fun _ _ _ _ _ _ us hl => match us, hl with | [_, _, _], _ => rfl
  have F__law_is_number := fun_mk (st := s__law_is_number) l__law_is_number c__law_is_number k__law_is_number
  have b__law_is_number := F__law_is_number.binds (ps := ["_law_p", "_law_thing"]) fun _ _ _ _ _ _ us hl => match us, hl with | [_, _], _ => rfl
  have F__law_is_row := fun_mk (st := s__law_is_row) l__law_is_row c__law_is_row k__law_is_row
  have b__law_is_row := F__law_is_row.binds (ps := ["_law_p", "_law_posts", "_law_thing"]) fun _ _ _ _ _ _ us hl => match us, hl with | [_, _, _], _ => rfl
  have F__law_odd := fun_mk (st := s__law_odd) l__law_odd c__law_odd k__law_odd
  have b__law_odd := F__law_odd.binds (ps := ["_law_deck_here", "_law_p"]) fun _ _ _ _ _ _ us hl => match us, hl with | [_, _], _ => rfl
  have F__law_bent := fun_mk (st := s__law_bent) l__law_bent c__law_bent k__law_bent
  have b__law_bent := F__law_bent.binds (ps := ["_law_deck_here", "_law_p", "_law_row_here"]) fun _ _ _ _ _ _ us hl => match us, hl with | [_, _, _], _ => rfl
  have F_law := fun_mk (st := s_law) l_law c_law k_law
  have b_law := F_law.binds (ps := ["_law_script"]) fun _ _ _ _ _ _ us hl => match us, hl with | [_], _ => rfl
  let A : Ad := ⟨f_is_whole, PySem.W.fnOf "is_whole" "is_whole" (defArgs s_is_whole) (defBody s_is_whole) (defScope s_is_whole) .none kV_is_whole dc_is_whole pm_is_whole an_is_whole cd_is_whole ct_is_whole, f_is_round, PySem.W.fnOf "is_round" "is_round" (defArgs s_is_round) (defBody s_is_round) (defScope s_is_round) .none kV_is_round dc_is_round pm_is_round an_is_round cd_is_round ct_is_round, f_is_pair, PySem.W.fnOf "is_pair" "is_pair" (defArgs s_is_pair) (defBody s_is_pair) (defScope s_is_pair) .none kV_is_pair dc_is_pair pm_is_pair an_is_pair cd_is_pair ct_is_pair, f_is_row, PySem.W.fnOf "is_row" "is_row" (defArgs s_is_row) (defBody s_is_row) (defScope s_is_row) .none kV_is_row dc_is_row pm_is_row an_is_row cd_is_row ct_is_row, f__law_deck, PySem.W.fnOf "_law_deck" "_law_deck" (defArgs s__law_deck) (defBody s__law_deck) (defScope s__law_deck) .none kV__law_deck dc__law_deck pm__law_deck an__law_deck cd__law_deck ct__law_deck, f__law_next, PySem.W.fnOf "_law_next" "_law_next" (defArgs s__law_next) (defBody s__law_next) (defScope s__law_next) .none kV__law_next dc__law_next pm__law_next an__law_next cd__law_next ct__law_next, f__law_prime, PySem.W.fnOf "_law_prime" "_law_prime" (defArgs s__law_prime) (defBody s__law_prime) (defScope s__law_prime) .none kV__law_prime dc__law_prime pm__law_prime an__law_prime cd__law_prime ct__law_prime, f__law_numbers, PySem.W.fnOf "_law_numbers" "_law_numbers" (defArgs s__law_numbers) (defBody s__law_numbers) (defScope s__law_numbers) .none kV__law_numbers dc__law_numbers pm__law_numbers an__law_numbers cd__law_numbers ct__law_numbers, f__law_row, PySem.W.fnOf "_law_row" "_law_row" (defArgs s__law_row) (defBody s__law_row) (defScope s__law_row) .none kV__law_row dc__law_row pm__law_row an__law_row cd__law_row ct__law_row, f__law_is_number, PySem.W.fnOf "_law_is_number" "_law_is_number" (defArgs s__law_is_number) (defBody s__law_is_number) (defScope s__law_is_number) .none kV__law_is_number dc__law_is_number pm__law_is_number an__law_is_number cd__law_is_number ct__law_is_number, f__law_is_row, PySem.W.fnOf "_law_is_row" "_law_is_row" (defArgs s__law_is_row) (defBody s__law_is_row) (defScope s__law_is_row) .none kV__law_is_row dc__law_is_row pm__law_is_row an__law_is_row cd__law_is_row ct__law_is_row, f__law_odd, PySem.W.fnOf "_law_odd" "_law_odd" (defArgs s__law_odd) (defBody s__law_odd) (defScope s__law_odd) .none kV__law_odd dc__law_odd pm__law_odd an__law_odd cd__law_odd ct__law_odd, f__law_bent, PySem.W.fnOf "_law_bent" "_law_bent" (defArgs s__law_bent) (defBody s__law_bent) (defScope s__law_bent) .none kV__law_bent dc__law_bent pm__law_bent an__law_bent cd__law_bent ct__law_bent, fa, PySem.W.fnOf "law" "law" (defArgs s_law) (defBody s_law) (defScope s_law) .none kV_law dc_law pm_law an_law cd_law ct_law⟩
  have T : Tx K mg A := ⟨⟨F_is_whole, b_is_whole, PySem.W.mg_of X G a_is_whole⟩, ⟨F_is_round, b_is_round, PySem.W.mg_of X G a_is_round⟩, ⟨F_is_pair, b_is_pair, PySem.W.mg_of X G a_is_pair⟩, ⟨F_is_row, b_is_row, PySem.W.mg_of X G a_is_row⟩, ⟨F__law_deck, b__law_deck, PySem.W.mg_of X G a__law_deck⟩, ⟨F__law_next, b__law_next, PySem.W.mg_of X G a__law_next⟩, ⟨F__law_prime, b__law_prime, PySem.W.mg_of X G a__law_prime⟩, ⟨F__law_numbers, b__law_numbers, PySem.W.mg_of X G a__law_numbers⟩, ⟨F__law_row, b__law_row, PySem.W.mg_of X G a__law_row⟩, ⟨F__law_is_number, b__law_is_number, PySem.W.mg_of X G a__law_is_number⟩, ⟨F__law_is_row, b__law_is_row, PySem.W.mg_of X G a__law_is_row⟩, ⟨F__law_odd, b__law_odd, PySem.W.mg_of X G a__law_odd⟩, ⟨F__law_bent, b__law_bent, PySem.W.mg_of X G a__law_bent⟩, ⟨F_law, b_law, PySem.W.mg_of X G a_law⟩, PySem.W.mg_none_of X G z_abs, PySem.W.mg_none_of X G z_all, PySem.W.mg_none_of X G z_bool, PySem.W.mg_none_of X G z_int, PySem.W.mg_none_of X G z_isinstance, PySem.W.mg_none_of X G z_len, PySem.W.mg_none_of X G z_list, PySem.W.mg_none_of X G z_max, PySem.W.mg_none_of X G z_min, PySem.W.mg_none_of X G z_range, PySem.W.mg_none_of X G z_repr, PySem.W.mg_none_of X G z_tuple⟩
  exact ok_law T
end Kp

open PySem PySem.W PyProof.Rows in
set_option maxRecDepth 100000 in
set_option maxHeartbeats 0 in
theorem PySem.Challenge.cw_fairposts_k03_rows_or_not_holds : PySem.Challenge.rw_fairposts_k03_rows_or_not.Holds := by
  w_on; o_law; k_head; (case hw => w_witness2)
  k_fill
  refine Kp.walk_g (l := PySem.Challenge.rw_fairposts_k03_rows_or_not) rfl rfl (by decide +kernel) (fun w h Y => PySem.W.kIn_of Y) ?F
  case F =>
    intro w mg fa h KX G hmg
    refine' Kp.all_mk KX G hmg ?a_is_whole ?l_is_whole ?c_is_whole ?k_is_whole ?a_is_round ?l_is_round ?c_is_round ?k_is_round ?a_is_pair ?l_is_pair ?c_is_pair ?k_is_pair ?a_is_row ?l_is_row ?c_is_row ?k_is_row ?a__law_deck ?l__law_deck ?c__law_deck ?k__law_deck ?a__law_next ?l__law_next ?c__law_next ?k__law_next ?a__law_prime ?l__law_prime ?c__law_prime ?k__law_prime ?a__law_numbers ?l__law_numbers ?c__law_numbers ?k__law_numbers ?a__law_row ?l__law_row ?c__law_row ?k__law_row ?a__law_is_number ?l__law_is_number ?c__law_is_number ?k__law_is_number ?a__law_is_row ?l__law_is_row ?c__law_is_row ?k__law_is_row ?a__law_odd ?l__law_odd ?c__law_odd ?k__law_odd ?a__law_bent ?l__law_bent ?c__law_bent ?k__law_bent ?a_law ?l_law ?c_law ?k_law ?z_abs ?z_all ?z_bool ?z_int ?z_isinstance ?z_len ?z_list ?z_max ?z_min ?z_range ?z_repr ?z_tuple
    (case a_is_whole => k_is)
    (case l_is_whole => k_is)
    (case c_is_whole => k_is)
    (case k_is_whole => k_is)
    (case a_is_round => k_is)
    (case l_is_round => k_is)
    (case c_is_round => k_is)
    (case k_is_round => k_is)
    (case a_is_pair => k_is)
    (case l_is_pair => k_is)
    (case c_is_pair => k_is)
    (case k_is_pair => k_is)
    (case a_is_row => k_is)
    (case l_is_row => k_is)
    (case c_is_row => k_is)
    (case k_is_row => k_is)
    (case a__law_deck => k_is)
    (case l__law_deck => k_is)
    (case c__law_deck => k_is)
    (case k__law_deck => k_is)
    (case a__law_next => k_is)
    (case l__law_next => k_is)
    (case c__law_next => k_is)
    (case k__law_next => k_is)
    (case a__law_prime => k_is)
    (case l__law_prime => k_is)
    (case c__law_prime => k_is)
    (case k__law_prime => k_is)
    (case a__law_numbers => k_is)
    (case l__law_numbers => k_is)
    (case c__law_numbers => k_is)
    (case k__law_numbers => k_is)
    (case a__law_row => k_is)
    (case l__law_row => k_is)
    (case c__law_row => k_is)
    (case k__law_row => k_is)
    (case a__law_is_number => k_is)
    (case l__law_is_number => k_is)
    (case c__law_is_number => k_is)
    (case k__law_is_number => k_is)
    (case a__law_is_row => k_is)
    (case l__law_is_row => k_is)
    (case c__law_is_row => k_is)
    (case k__law_is_row => k_is)
    (case a__law_odd => k_is)
    (case l__law_odd => k_is)
    (case c__law_odd => k_is)
    (case k__law_odd => k_is)
    (case a__law_bent => k_is)
    (case l__law_bent => k_is)
    (case c__law_bent => k_is)
    (case k__law_bent => k_is)
    (case a_law => k_is)
    (case l_law => k_is)
    (case c_law => k_is)
    (case k_law => k_is)
    (case z_abs => k_is)
    (case z_all => k_is)
    (case z_bool => k_is)
    (case z_int => k_is)
    (case z_isinstance => k_is)
    (case z_len => k_is)
    (case z_list => k_is)
    (case z_max => k_is)
    (case z_min => k_is)
    (case z_range => k_is)
    (case z_repr => k_is)
    (case z_tuple => k_is)
#print axioms PySem.Challenge.cw_fairposts_k03_rows_or_not_holds

import PyProof.Rows.All
import Wide.All
import OpenK.AllK
import Wide.FinOn
import HandS.ForMost
import HandS.ForExc
import HandS.IsInst
import HandS.FStr
import HandS.TryMany
import HandS.ExcInit
import HandS.ExcField
import HandS.ExcIs
import HandS.Codes
import HandS.Defaults
import HandS.SortInts
import PySem.Challenge.RW_reedtapes_k03_whole_gaps_there_and_back
set_option Elab.async false
set_option linter.all false
set_option maxRecDepth 100000
set_option maxHeartbeats 4000000
namespace Rt
open PySem PySem.Spec PyProof.Rows L2
/-! ### heaps: what was known stays known -/
def Ex (H H' : Hp) : Prop := ∀ b o, H b = some o → H' b = some o
theorem Ex.refl (H : Hp) : Ex H H := fun _ _ h => h
theorem Ex.trans {H H1 H2 : Hp} (a : Ex H H1) (b : Ex H1 H2) : Ex H H2 := fun c o h => b c o (a c o h)
theorem Ex.to {H H' : Hp} {b : Addr} {o : HO} (e : Ex H H') (h : H b = some o) : H' b = some o := e b o h
theorem Ex.seq {K : PySem.W.Frag} {H H' : Hp} {a : Addr} {xs : List V} (e : Ex H H') (h : SqL K H a xs) : SqL K H' a xs := by
  rcases h with (h | ⟨o, h⟩) | h
  · exact .inl (.inl (e _ _ h))
  · exact .inl (.inr ⟨o, e _ _ h⟩)
  · exact .inr h
theorem Ex.new {H : Hp} {p : Addr} {o : HO} (h : H p = none) : Ex H (upd H p o) := fun a u e => by
  rw [upd_ne (ne_of_none e h)]
  exact e
theorem Ex.free {H H' : Hp} {p : Addr} (e : Ex H H') (h : H' p = none) : H p = none := by
  cases q : H p with
  | none => rfl
  | some o =>
    rw [e p o q] at h
    cases h
/-- a step of the heap: H0 what is settled, H all; m: what may be turned -/
structure Go (m : Addr → Prop) (E0 E H0 H : Hp) : Prop where
  up : Ex E0 H0
  inn : Ex H0 H
  new : ∀ b, E b ≠ none → E0 b = none → H0 b = none
  keep : ∀ b o, E b = some o → ¬ m b → H b = some o
  there : ∀ b, E b ≠ none → H b ≠ none
theorem Go.refl {m : Addr → Prop} {H0 H : Hp} (e : Ex H0 H) : Go m H0 H H0 H := ⟨Ex.refl _, e, fun _ _ h => h, fun _ _ h _ => h, fun _ h => h⟩
theorem Go.trans {m m' : Addr → Prop} {E0 E F0 F G0 G : Hp} (a : Go m E0 E F0 F) (b : Go m' F0 F G0 G) (hm : ∀ x, E x ≠ none → m' x → m x) : Go m E0 E G0 G where
  up := a.up.trans b.up
  inn := b.inn
  new := fun x h1 h2 => b.new x (a.there x h1) (a.new x h1 h2)
  keep := fun x o h n => b.keep x o (a.keep x o h n) fun z => n (hm x (by rw [h]; simp) z)
  there := fun x h => b.there x (a.there x h)
/-- the same, what may be turned being alike -/
theorem Go.then {m : Addr → Prop} {E0 E F0 F G0 G : Hp} (a : Go m E0 E F0 F) (b : Go m F0 F G0 G) : Go m E0 E G0 G := a.trans b fun _ _ h => h
/-- a new object, not settled -/
theorem Go.lay {m : Addr → Prop} {E0 E H0 H : Hp} {p : Addr} (o : HO) (a : Go m E0 E H0 H) (h : H p = none) : Go m E0 E H0 (upd H p o) where
  up := a.up
  inn := a.inn.trans (Ex.new h)
  new := a.new
  keep := fun x u q n => by
    rw [upd_ne (ne_of_none (a.keep x u q n) h)]
    exact a.keep x u q n
  there := fun x q => by
    by_cases e : x = p
    · rw [e, upd_same]; simp
    · rw [upd_ne e]; exact a.there x q
/-- a new object that is not known at the entry is turned -/
theorem Go.turn {m : Addr → Prop} {E0 E H0 H : Hp} {p : Addr} (o : HO) (a : Go m E0 E H0 H) (h : E p = none) (h0 : H0 p = none) : Go m E0 E H0 (upd H p o) where
  up := a.up
  inn := fun x u q => by
    rw [upd_ne (ne_of_none q h0)]
    exact a.inn x u q
  new := a.new
  keep := fun x u q n => by
    rw [upd_ne (ne_of_none q h)]
    exact a.keep x u q n
  there := fun x q => by
    by_cases e : x = p
    · rw [e, upd_same]; simp
    · rw [upd_ne e]; exact a.there x q
/-- what may be turned is turned -/
theorem Go.turnM {m : Addr → Prop} {E0 E H0 H : Hp} {p : Addr} (o : HO) (a : Go m E0 E H0 H) (h : m p) (h0 : H0 p = none) : Go m E0 E H0 (upd H p o) where
  up := a.up
  inn := fun x u q => by
    rw [upd_ne (ne_of_none q h0)]
    exact a.inn x u q
  new := a.new
  keep := fun x u q n => by
    have e : x ≠ p := fun z => n (z ▸ h)
    rw [upd_ne e]
    exact a.keep x u q n
  there := fun x q => by
    by_cases e : x = p
    · rw [e, upd_same]; simp
    · rw [upd_ne e]; exact a.there x q
/-- it is settled -/
theorem Go.set {m : Addr → Prop} {E0 E H0 H : Hp} {p : Addr} {o : HO} (a : Go m E0 E H0 H) (h : E p = none) (hp : H p = some o) (h0 : H0 p = none) : Go m E0 E (upd H0 p o) H where
  up := a.up.trans (Ex.new h0)
  inn := fun x u q => by
    by_cases e : x = p
    · rw [e, upd_same] at q
      rw [e, hp, q]
    · rw [upd_ne e] at q
      exact a.inn x u q
  new := fun x q r => by
    have e : x ≠ p := fun z => q (z ▸ h)
    rw [upd_ne e]
    exact a.new x q r
  keep := a.keep
  there := a.there
/-- a new object that is settled at once -/
theorem Go.put {m : Addr → Prop} {E0 E H0 H : Hp} {p : Addr} (o : HO) (a : Go m E0 E H0 H) (h : H p = none) : Go m E0 E (upd H0 p o) (upd H p o) := by
  have hE : E p = none := by
    cases q : E p with
    | none => rfl
    | some u => exact absurd h (a.there p (by rw [q]; simp))
  exact (a.lay o h).set hE upd_same (a.inn.free h)
theorem Go.mono {m m' : Addr → Prop} {E0 E H0 H : Hp} (a : Go m E0 E H0 H) (h : ∀ x, m x → m' x) : Go m' E0 E H0 H := ⟨a.up, a.inn, a.new, fun b o q n => a.keep b o q fun z => n (h b z), a.there⟩
/-- fresh now: fresh at the entry, and unsettled -/
theorem Go.fresh {m : Addr → Prop} {E0 E H0 H : Hp} {p : Addr} (a : Go m E0 E H0 H) (h : H p = none) : E p = none := by
  cases q : E p with
  | none => rfl
  | some u => exact absurd h (a.there p (by rw [q]; simp))
theorem Go.fresh0 {m : Addr → Prop} {E0 E H0 H : Hp} {p : Addr} (a : Go m E0 E H0 H) (h : H p = none) : H0 p = none := a.inn.free h
/-! ### the drawing's list -/
structure Dr (H0 H : Hp) (d : Addr) : Prop where
  ex : ∃ (a : Addr) (ns : List Int) (i j k l : Int), H d = some (.lst [.ref a, .int i, .int j, .int k, .int l]) ∧ H0 a = some (.lst (ns.map V.int)) ∧ 0 ≤ i ∧ 0 ≤ j ∧ 0 ≤ k ∧ k < 2000000000
  out : H0 d = none
theorem Dr.mono {H0 H H0' : Hp} {d : Addr} (x : Dr H0 H d) (e : Ex H0 H0') (n : H0' d = none) : Dr H0' H d := by
  obtain ⟨⟨a, ns, i, j, k, l, h1, h2, h3⟩, _⟩ := x
  exact ⟨⟨a, ns, i, j, k, l, h1, e _ _ h2, h3⟩, n⟩
theorem Dr.known {H0 H : Hp} {d : Addr} (x : Dr H0 H d) : H d ≠ none := by
  obtain ⟨⟨a, ns, i, j, k, l, h1, _⟩, _⟩ := x
  rw [h1]; simp
/-- a pure step leaves the drawing -/
theorem Dr.go {m : Addr → Prop} {H0 H H0' H' : Hp} {d : Addr} (x : Dr H0 H d) (g : Go m H0 H H0' H') (n : ¬ m d) : Dr H0' H' d := by
  have k := x.known
  obtain ⟨⟨a, ns, i, j, k', l, h1, h2, h3⟩, o⟩ := x
  exact ⟨⟨a, ns, i, j, k', l, g.keep _ _ h1 n, g.up _ _ h2, h3⟩, g.new d k o⟩
theorem Dr.lay {H0 H : Hp} {d p : Addr} (o : HO) (x : Dr H0 H d) (h : H p = none) : Dr H0 (upd H p o) d := by
  have k := x.known
  obtain ⟨⟨a, ns, i, j, k', l, h1, h2⟩, n⟩ := x
  exact ⟨⟨a, ns, i, j, k', l, by rw [upd_ne (ne_of_none h1 h)]; exact h1, h2⟩, n⟩
theorem Dr.turn {H0 H : Hp} {d p : Addr} (o : HO) (x : Dr H0 H d) (h : d ≠ p) : Dr H0 (upd H p o) d := by
  obtain ⟨⟨a, ns, i, j, k', l, h1, h2⟩, n⟩ := x
  exact ⟨⟨a, ns, i, j, k', l, by rw [upd_ne h]; exact h1, h2⟩, n⟩
theorem Dr.set {H0 H : Hp} {d p : Addr} (o : HO) (x : Dr H0 H d) (h0 : H0 p = none) (h : d ≠ p) : Dr (upd H0 p o) H d := x.mono (Ex.new h0) (by rw [upd_ne h]; exact x.out)
theorem Dr.ne {H0 H : Hp} {d p : Addr} (x : Dr H0 H d) (h : H p = none) : d ≠ p := fun z => x.known (z ▸ h)
theorem Ex.lay {H0 H : Hp} {p : Addr} (o : HO) (e : Ex H0 H) (h : H p = none) : Ex H0 (upd H p o) := e.trans (Ex.new h)
theorem Ex.turn {H0 H : Hp} {p : Addr} (o : HO) (e : Ex H0 H) (h : H0 p = none) : Ex H0 (upd H p o) := fun x u q => by
  rw [upd_ne (ne_of_none q h)]
  exact e x u q
theorem Ex.set {H0 H : Hp} {p : Addr} {o : HO} (e : Ex H0 H) (h : H p = some o) : Ex (upd H0 p o) H := fun x u q => by
  by_cases z : x = p
  · rw [z, upd_same] at q
    rw [z, h, q]
  · rw [upd_ne z] at q
    exact e x u q
/-! ### a def of the text, called by its name; dvs: the defaults that fill up -/
structure Def (P : Program) (w : World) (K : PySem.W.Frag) (mg : Str → Option Value) (base : Heap) (x : Str) (k : Nat) (sp : Sp) (dvs : List V := []) : Prop where
  ex : ∃ (f : Addr) (fd : FuncData) (ps : List Str) (ds : List Value), mg x = some (.ref f) ∧ FnOk P w K mg base CX0 k f fd ps sp ∧ PySem.W.keepIn K (.ref f) = true ∧ Binds K fd ps ds ∧ Vals dvs ds
section
variable {X : Cx} {x : Str} {p pos : Pos} {e : Expr} {es : List Expr} {t : TA} {k : Nat} {sp : Sp} {dvs : List V}
theorem pe_d (D : Def X.prog X.w X.K X.mg X.base x k sp dvs) (hr : Room k X.A) (hg : Gl X x) (ha : PA X (e :: es) t) (hdb : (x == ("__debug__" : Str)) = false := by decide)
    (he : starEach (e :: es) X.env = (false, eval e X.env) :: starEach es X.env := by rfl) (hpl : (backTo pos (starEach es X.env)).any (·.1) = false := by rfl) :
    PE X (.Call (.Name x p) (e :: es) [] pos) (tCall sp dvs E0 t) := by
  obtain ⟨f, fd, ps, ds, h1, h2, h3, h4, h5⟩ := D.ex
  exact pe_call h2 hr hg h1 h3 h4 h5 pass0 ha hdb he hpl
theorem pe_d0 (D : Def X.prog X.w X.K X.mg X.base x k sp dvs) (hr : Room k X.A) (hg : Gl X x) (hdb : (x == ("__debug__" : Str)) = false := by decide) :
    PE X (.Call (.Name x p) [] [] pos) (tCall sp dvs E0 tNil) := by
  obtain ⟨f, fd, ps, ds, h1, h2, h3, h4, h5⟩ := D.ex
  exact pe_call0 h2 hr hg h1 h3 h4 h5 pass0 hdb
end
section
variable {P : Program} {w : World} {K : PySem.W.Frag} {mg : Str → Option Value} {base : Heap} {x qual : Str} {params : Arguments} {body : List Stmt} {scope : Scope} {dvs : List V} {kws : List (Str × V)} {f : Addr} {fd : FuncData}
/-- a def with defaults that lets nothing out -/
theorem okD0 {N ps : List Str} {k : Nat} {sp : Sp} (F : FunD K x qual params body scope dvs kws f fd) (S : FnScope N ps scope) (len : ∀ vs H Q E, sp vs H Q E → vs.length = ps.length)
    (hbody : ∀ (cdv : Value) (A : Around) (outer : List Env) (s : Shared) (H : Hp) (vs : List V) (Q : VK) (E : XK), Room k (A.deeper (envOfC qual scope s.heap.objs.size f cdv)) → sp vs H Q E →
      ∃ t, PSs (cxOf CX0 P w K mg base N qual scope f cdv A outer s H E).nox body t ∧ t { nx := fun _ H' => Q .non H', rt := Q } (start N vs) H) : FnOk P w K mg base CX0 (k + 1) f fd ps sp :=
  F.ok S len fun cdv A outer s H vs Q E hr hsp =>
    let ⟨t, h, q⟩ := hbody cdv A outer s H vs Q E hr hsp
    ⟨t, h.nox, q⟩
end
/-! ### numbers as rows of bytes -/
def gtl (r : Nat) : List Nat := if h : r = 0 then [] else (128 + r % 128) :: gtl (r / 128)
termination_by r
decreasing_by omega
theorem gtl0 : gtl 0 = [] := by rw [gtl]; rfl
theorem gtl1 {r : Nat} (h : r ≠ 0) : gtl r = (128 + r % 128) :: gtl (r / 128) := by
  rw [gtl, dif_neg h]
def gapB (n : Nat) : List Nat := ((n % 128) :: gtl (n / 128)).reverse
def val (l : List Nat) : Nat := l.foldl (fun t b => t * 128 + b % 128) 0
theorem val_snoc (l : List Nat) (b : Nat) : val (l ++ [b]) = val l * 128 + b % 128 := by
  unfold val
  rw [List.foldl_append]
  rfl
theorem val_gtl (r : Nat) : val (gtl r).reverse = r := by
  induction r using Nat.strongRecOn with
  | _ r ih =>
    by_cases h : r = 0
    · subst h
      rw [gtl0]
      rfl
    · rw [gtl1 h, List.reverse_cons, val_snoc, ih (r / 128) (by omega)]
      omega
theorem gapB_eq (n : Nat) : gapB n = (gtl (n / 128)).reverse ++ [n % 128] := by
  unfold gapB
  rw [List.reverse_cons]
theorem val_gapB (n : Nat) : val (gapB n) = n := by
  rw [gapB_eq, val_snoc, val_gtl]
  omega
theorem gtl_len : ∀ (k r : Nat), r < 128 ^ k → (gtl r).length ≤ k
  | 0, r, h => by
    have e : r = 0 := by omega
    subst e
    rw [gtl0]
    exact Nat.zero_le _
  | k + 1, r, h => by
    by_cases z : r = 0
    · subst z
      rw [gtl0]
      exact Nat.zero_le _
    · rw [gtl1 z, List.length_cons]
      have := gtl_len k (r / 128) (by rw [Nat.pow_succ] at h; omega)
      omega
theorem gapB_len {n : Nat} (h : n < 268435456) : (gapB n).length ≤ 4 := by
  rw [gapB_eq, List.length_append, List.length_reverse]
  have := gtl_len 3 (n / 128) (by omega)
  show (gtl (n / 128)).length + 1 ≤ 4
  omega
theorem gapB_pos (n : Nat) : 0 < (gapB n).length := by
  rw [gapB_eq, List.length_append]
  show 0 < _ + 1
  omega
theorem gtl_mono (a b : Nat) (h : a ≤ b) : (gtl a).length ≤ (gtl b).length := by
  induction b using Nat.strongRecOn generalizing a with
  | _ b ih =>
    by_cases z : a = 0
    · subst z
      rw [gtl0]
      exact Nat.zero_le _
    · rw [gtl1 z, gtl1 (show b ≠ 0 by omega), List.length_cons, List.length_cons]
      have := ih (b / 128) (by omega) (a / 128) (by omega)
      omega
theorem gapB_mono {a b : Nat} (h : a ≤ b) : (gapB a).length ≤ (gapB b).length := by
  rw [gapB_eq, gapB_eq, List.length_append, List.length_append, List.length_reverse, List.length_reverse]
  have := gtl_mono (a / 128) (b / 128) (by omega)
  exact Nat.add_le_add_right this _
theorem gtl_big (r b : Nat) (h : b ∈ gtl r) : 128 ≤ b ∧ b < 256 := by
  induction r using Nat.strongRecOn with
  | _ r ih =>
    by_cases z : r = 0
    · subst z
      rw [gtl0] at h
      cases h
    · rw [gtl1 z] at h
      rcases List.mem_cons.mp h with e | e
      · omega
      · exact ih (r / 128) (by omega) e
theorem gtl_last (r b : Nat) (h : (gtl r).getLast? = some b) : b ≠ 128 := by
  induction r using Nat.strongRecOn with
  | _ r ih =>
    by_cases z : r = 0
    · subst z
      rw [gtl0] at h
      cases h
    · rw [gtl1 z] at h
      by_cases z2 : r / 128 = 0
      · rw [z2, gtl0] at h
        have e : 128 + r % 128 = b := Option.some.inj h
        omega
      · rw [List.getLast?_cons] at h
        cases q : (gtl (r / 128)).getLast? with
        | none =>
          rw [gtl1 z2] at q
          simp at q
        | some c =>
          rw [q] at h
          have e : c = b := Option.some.inj h
          subst e
          exact ih (r / 128) (by omega) q
theorem gapB_all (n b : Nat) (h : b ∈ gapB n) : b < 256 := by
  rw [gapB_eq] at h
  rcases List.mem_append.mp h with e | e
  · exact (gtl_big _ _ (List.mem_reverse.mp e)).2
  · have : b = n % 128 := by simpa using e
    omega
theorem gapB_head {n b : Nat} (h : (gapB n)[0]? = some b) (hb : 128 ≤ b) : b ≠ 128 := by
  rw [gapB_eq] at h
  cases q : (gtl (n / 128)).reverse with
  | nil =>
    rw [q] at h
    have e : n % 128 = b := Option.some.inj h
    omega
  | cons c l =>
    rw [q] at h
    have e : c = b := Option.some.inj h
    subst e
    refine gtl_last (n / 128) c ?_
    have z : gtl (n / 128) = l.reverse ++ [c] := by
      have := congrArg List.reverse q
      rw [List.reverse_reverse, List.reverse_cons] at this
      exact this
    rw [z]
    simp
theorem gapB_mid {n i b : Nat} (h : (gapB n)[i]? = some b) (hi : i + 1 < (gapB n).length) : 128 ≤ b := by
  rw [gapB_eq] at h hi
  rw [List.length_append] at hi
  have hi' : i < (gtl (n / 128)).reverse.length := by
    have : i + 1 < (gtl (n / 128)).reverse.length + 1 := hi
    omega
  rw [List.getElem?_append_left hi'] at h
  exact (gtl_big _ _ (List.mem_reverse.mp (List.mem_of_getElem? h))).1
theorem gapB_end {n i b : Nat} (h : (gapB n)[i]? = some b) (hi : i + 1 = (gapB n).length) : b < 128 := by
  rw [gapB_eq] at h hi
  rw [List.length_append] at hi
  have e : i = (gtl (n / 128)).reverse.length := by
    have : i + 1 = (gtl (n / 128)).reverse.length + 1 := hi
    omega
  subst e
  rw [List.getElem?_append_right (Nat.le_refl _), Nat.sub_self] at h
  have e : n % 128 = b := Option.some.inj h
  omega
theorem flat_len : ∀ (l : List Nat), (∀ n ∈ l, n < 268435456) → (l.flatMap gapB).length ≤ 4 * l.length
  | [], _ => Nat.zero_le _
  | n :: l, h => by
    have h1 := flat_len l fun m hm => h m (List.mem_cons_of_mem _ hm)
    have h2 := gapB_len (h n (List.mem_cons_self ..))
    rw [List.flatMap_cons, List.length_append, List.length_cons]
    omega
def nums (l : List Nat) : List V := l.map fun (n : Nat) => V.int (n : Int)
theorem nums_snoc (l : List Nat) (b : Nat) : nums (l ++ [b]) = nums l ++ [.int (b : Int)] := by
  unfold nums
  rw [List.map_append]
  rfl
theorem nums_len (l : List Nat) : (nums l).length = l.length := by
  unfold nums
  rw [List.length_map]
theorem nums_at {l : List Nat} {i b : Nat} (h : l[i]? = some b) : (nums l)[i]? = some (.int (b : Int)) := by
  unfold nums
  rw [List.getElem?_map, h]
  rfl
theorem nums_app (l r : List Nat) : nums (l ++ r) = nums l ++ nums r := by
  unfold nums
  rw [List.map_append]
theorem nums_eq (l : List Nat) : nums l = (l.map fun (n : Nat) => (n : Int)).map V.int := by
  unfold nums
  rw [List.map_map]
  rfl
theorem nums_inv {l : List Nat} {i : Nat} {y : V} (h : (nums l)[i]? = some y) : ∃ b, l[i]? = some b ∧ y = .int (b : Int) := by
  unfold nums at h
  rw [List.getElem?_map] at h
  cases e : l[i]? with
  | none => rw [e] at h; cases h
  | some x => rw [e] at h; exact ⟨x, rfl, (Option.some.inj h).symm⟩
/-! ### names of the language -/
theorem bt_isinstance : bootBuiltins ("isinstance" : Str) = some (.builtin "isinstance") := by decide +kernel
theorem bt_all : bootBuiltins ("all" : Str) = some (.builtin "all") := by decide +kernel
theorem bt_any : bootBuiltins ("any" : Str) = some (.builtin "any") := by decide +kernel
theorem bt_sum : bootBuiltins ("sum" : Str) = some (.builtin "sum") := by decide +kernel
theorem bt_sorted : bootBuiltins ("sorted" : Str) = some (.builtin "sorted") := by decide +kernel
theorem bt_min : bootBuiltins ("min" : Str) = some (.builtin "min") := by decide +kernel
theorem bt_max : bootBuiltins ("max" : Str) = some (.builtin "max") := by decide +kernel
theorem bt_ord : bootBuiltins ("ord" : Str) = some (.builtin "ord") := by decide +kernel
theorem bt_abs : bootBuiltins ("abs" : Str) = some (.builtin "abs") := by decide +kernel
theorem bt_chr : bootBuiltins ("chr" : Str) = some (.builtin "chr") := by decide +kernel
theorem bt_list : bootBuiltins ("list" : Str) = some (.type "list") := by decide +kernel
theorem bt_tuple : bootBuiltins ("tuple" : Str) = some (.type "tuple") := by decide +kernel
theorem bt_int : bootBuiltins ("int" : Str) = some (.type "int") := by decide +kernel
theorem bt_str : bootBuiltins ("str" : Str) = some (.type "str") := by decide +kernel
theorem bt_bool : bootBuiltins ("bool" : Str) = some (.type "bool") := by decide +kernel
theorem bt_dict : bootBuiltins ("dict" : Str) = some (.type "dict") := by decide +kernel
def rLenQ (K : PySem.W.Frag) : List V → Hp → VK → Prop := fun xs H Q => ∃ p ys, xs = [.ref p] ∧ (SqL K H p ys ∨ SqT K H p ys) ∧ Q (.int ys.length) H
theorem call_lenQ {X : Cx} : CallR X (.builtin "len") (rLenQ X.K) := call_len_seq
theorem map_ref {ps : List Addr} {i : Nat} {x : Addr} (h : ps[i]? = some x) : (ps.map V.ref)[i]? = some (.ref x) := by
  rw [List.getElem?_map, h]
  rfl
theorem any_rep (n : Nat) : (List.replicate n false).any id = false := by
  induction n with
  | zero => rfl
  | succ k ih => rw [List.replicate_succ, List.any_cons, ih]; rfl
theorem all_rep (n : Nat) : (List.replicate n true).all id = true := by
  induction n with
  | zero => rfl
  | succ k ih => rw [List.replicate_succ, List.all_cons, ih]; rfl
/-! ### ifs -/
theorem ifT {c : Bool} {A B : Prop} (hc : c = true) (h : A) : if c = true then A else B := by
  rw [if_pos hc]
  exact h
theorem ifF {c : Bool} {A B : Prop} (hc : c = false) (h : B) : if c = true then A else B := by
  rw [hc, if_neg Bool.false_ne_true]
  exact h
theorem ifD {c : Prop} [Decidable c] {A B : Prop} (h1 : c → A) (h2 : ¬ c → B) : if decide c = true then A else B := by
  by_cases h : c
  · exact ifT (decide_eq_true h) (h1 h)
  · exact ifF (decide_eq_false h) (h2 h)
theorem mem_sz {n : Nat} (h : n ≤ 1000000) : n ≤ sizeLine := Nat.le_trans h (by rw [sizeLine_eq]; decide)
theorem mem_lt {n : Nat} (h : n ≤ 1000000) : n < sizeLine := Nat.lt_of_le_of_lt h (by rw [sizeLine_eq]; decide)
theorem map_int {ns : List Int} {i : Nat} {x : Int} (h : ns[i]? = some x) : (ns.map V.int)[i]? = some (.int x) := by
  rw [List.getElem?_map, h]
  rfl
theorem map_int_inv {ns : List Int} {i : Nat} {y : V} (h : (ns.map V.int)[i]? = some y) : ∃ x, ns[i]? = some x ∧ y = .int x := by
  rw [List.getElem?_map] at h
  cases e : ns[i]? with
  | none => rw [e] at h; cases h
  | some x => rw [e] at h; exact ⟨x, rfl, (Option.some.inj h).symm⟩
end Rt

namespace Rt
open PySem PySem.Spec PyProof.Rows L2
def topS (i : Nat) : Stmt := PySem.Challenge.pw_reedtapes_k03_whole_gaps_there_and_back.main.body.getD i (.Pass ⟨0, 0, 0, 0⟩)
section
variable {P : Program} {w : World} {K : PySem.W.Frag} {mg : Str → Option Value} {base : Heap}
abbrev s_pick : Stmt := topS 12
theorem sc_pick : FnScope ["_law_draw", "_law_many", "_law_cell", "_law_got"] ["_law_draw", "_law_many"] (defScope s_pick) := ⟨rfl, rfl, rfl, by decide +kernel, rfl, by decide +kernel, by decide +kernel⟩
def spPick : Sp := fun vs H Q _ => ∃ (d : Addr) (m : Int) (H0 : Hp), vs = [.ref d, .int m] ∧ 0 < m ∧ m ≤ 1000000000 ∧ Ex H0 H ∧ Dr H0 H d ∧
  ∀ (r : Int) (H' : Hp), 0 ≤ r → r < m → Go (· = d) H0 H H0 H' → Dr H0 H' d → Q (.int r) H'
theorem ok_pick {f : Addr} {fd : FuncData} (F : Fun K "_law_pick" "_law_pick" s_pick f fd) (m_len : mg "len" = none) : FnOk P w K mg base CX0 1 f fd ["_law_draw", "_law_many"] spPick := by
  refine F.ok sc_pick (fun vs H Q E h => ?_) (fun cdv A outer s H vs Q E hr h => ?_)
  · obtain ⟨d, m, H0, rfl, _⟩ := h
    rfl
  · obtain ⟨d, m, H0, rfl, m0, m1, e0, ⟨⟨a, ns, i, j, k, l, hd, ha, hi, hj, hk0, hk⟩, out⟩, q⟩ := h
    refine ⟨_, (C8.pss_cut (ps_if (PW.pt (pw_and (pt_cmpR op_lt (pe_ix ix_list (pv 0) pe_int (fun _ _ => rfl)) (pv 1) (nomark _)) (pw_and1 (pt_cmpR op_lt (pe_ix ix_list (pv 0) pe_int (fun _ _ => rfl)) (pe_callB call_len_seq (by rfl) m_len PySem.boot_len (pa_cons (pe_ix ix_list (pv 0) pe_int (fun _ _ => rfl)) pa_nil)) (nomark _))))) (pss_cons (ps_set (i := 2) sc_pick.nd rfl (Or.inl rfl) (pe_ix ix_list (pe_ix ix_list (pv 0) pe_int (fun _ _ => rfl)) (pe_ix ix_list (pv 0) pe_int (fun _ _ => rfl)) (fun _ _ => rfl)))
      (pss_cons (ps_asg (pe_op op_add (pe_ix ix_list (pv 0) pe_int (fun _ _ => rfl)) pe_int) (pg_sub (pv 0) pe_int set_list))
      (pss_cons (ps_asg pe_int (pg_sub (pv 0) pe_int set_list))
      (pss_one (ps_if (pt_cmpR op_ge (pv 2) (pe_op op_pow pe_int pe_int) (nomark _)) (pss_one (ps_asg (pv 2) (pg_sub (pv 0) pe_int set_list))) (pss_one (ps_asg (pe_op op_modN (pe_op op_add (pe_ix ix_list (pv 0) pe_int (fun _ _ => rfl)) (pv 2)) pe_int) (pg_sub (pv 0) pe_int set_list)))))))) pss_nil)
      (pss_cons (ps_if (pt_cmpR op_ge (pe_ix ix_list (pv 0) pe_int (fun _ _ => rfl)) (pv 1) (nomark _)) (pss_cons (ps_set (i := 3) sc_pick.nd rfl (Or.inl rfl) (pe_op op_modN (pe_ix ix_list (pv 0) pe_int (fun _ _ => rfl)) (pv 1)))
      (pss_cons (ps_asg (pe_op op_fdivN (pe_ix ix_list (pv 0) pe_int (fun _ _ => rfl)) (pv 1)) (pg_sub (pv 0) pe_int set_list))
      (pss_one (ps_ret (pv 3))))) pss_nil)
      (pss_cons (ps_asg (pe_op op_add (pe_ix ix_list (pv 0) pe_int (fun _ _ => rfl)) pe_int) (pg_sub (pv 0) pe_int set_list))
      (pss_cons (ps_asg (pe_op op_modN (pe_op op_add (pe_op op_add (pe_op op_pow (pe_ix ix_list (pv 0) pe_int (fun _ _ => rfl)) pe_int) (pe_op op_mul pe_int (pe_ix ix_list (pv 0) pe_int (fun _ _ => rfl)))) pe_int) pe_int) (pg_sub (pv 0) pe_int set_list))
      (pss_one (ps_ret (pe_op op_modN (pe_op op_fdivN (pe_ix ix_list (pv 0) pe_int (fun _ _ => rfl)) pe_int) (pv 1)))))))), ?_⟩
    have hA : H a = some (.lst (ns.map V.int)) := e0 _ _ ha
    have nda : a ≠ d := fun z => by rw [z, out] at ha; cases ha
    refine ⟨fun σ H' => ∃ (i j k : Int) (v : Option V), σ = [some (.ref d), some (.int m), v, none] ∧ H' d = some (.lst [.ref a, .int i, .int j, .int k, .int l]) ∧ 0 ≤ i ∧ 0 ≤ j ∧ 0 ≤ k ∧ k < 2000000000 ∧ Go (· = d) H0 H H0 H', ?_, ?_⟩
    · -- if draw[2] < many and draw[1] < len(draw[0])
      refine ⟨_, rfl, d, _, 2, _, rfl, rfl, SqL.of hd, at_of (j := 2) rfl rfl, _, rfl, _, _, rfl, rfl, _, rfl, ifD (fun c => ?_) (fun c => ?_)⟩
      · refine ⟨_, rfl, d, _, 1, _, rfl, rfl, SqL.of hd, at_of (j := 1) rfl rfl, _, rfl, d, _, 0, _, rfl, rfl, SqL.of hd, at_of (j := 0) rfl rfl, a, _, rfl, .inl (SqL.of hA), _, _, rfl, rfl, _, rfl, ?_⟩
        rw [List.length_map]
        refine ifD (fun c2 => ?_) (fun c2 => ?_)
        · obtain ⟨n, rfl⟩ : ∃ n : Nat, i = (n : Int) := ⟨i.toNat, by omega⟩
          have hn : n < ns.length := by omega
          have g0 := Go.refl (m := (· = d)) e0
          -- cell = draw[0][draw[1]]
          refine ⟨_, rfl, d, _, 0, _, rfl, rfl, SqL.of hd, at_of (j := 0) rfl rfl, _, rfl, d, _, 1, _, rfl, rfl, SqL.of hd, at_of (j := 1) rfl rfl, a, _, _, _, rfl, rfl, SqL.of hA, at_of (j := n) rfl (map_int (List.getElem?_eq_getElem hn)), ?_⟩
          -- draw[1] = draw[1] + 1
          refine ⟨_, rfl, d, _, 1, _, rfl, rfl, SqL.of hd, at_of (j := 1) rfl rfl, _, _, rfl, rfl, _, rfl, _, _, _, 1, rfl, rfl, hd, rfl, ?_⟩
          -- draw[2] = 0
          refine ⟨_, rfl, _, _, _, 2, rfl, rfl, upd_same, rfl, ?_⟩
          -- if cell >= 10 ** 18
          refine ⟨_, rfl, _, _, rfl, rfl, ⟨by decide, by decide, by decide⟩, _, _, rfl, rfl, _, rfl, ifD (fun c3 => ?_) (fun c3 => ?_)⟩
          · refine ⟨_, rfl, _, rfl, _, _, _, 2, rfl, rfl, upd_same, rfl, ?_⟩
            have c4 : (10 : Int) ^ (18 : Int).toNat ≤ ns[n] := c3
            exact ⟨_, ns[n], k, _, rfl, upd_same, by omega, Int.le_trans (by decide) c4, hk0, hk, ((g0.turnM _ rfl out).turnM _ rfl out).turnM _ rfl out⟩
          · refine ⟨_, rfl, d, _, 3, _, rfl, rfl, SqL.of upd_same, at_of (j := 3) rfl rfl, _, rfl, _, _, rfl, rfl, _, _, rfl, rfl, (by show (1000000007 : Int) ≠ 0; decide), _, rfl, _, _, _, 3, rfl, rfl, upd_same, rfl, ?_⟩
            have f0 := Int.fmod_nonneg_of_pos (k + ns[n]) (show (0 : Int) < 1000000007 by decide)
            have f1 := Int.fmod_lt_of_pos (k + ns[n]) (show (0 : Int) < 1000000007 by decide)
            exact ⟨_, 0, _, _, rfl, upd_same, by omega, by decide, f0, by omega, ((g0.turnM _ rfl out).turnM _ rfl out).turnM _ rfl out⟩
        · exact ⟨i, j, k, none, rfl, hd, hi, hj, hk0, hk, Go.refl e0⟩
      · exact ⟨i, j, k, none, rfl, hd, hi, hj, hk0, hk, Go.refl e0⟩
    · rintro σ' H' ⟨i, j, k, v, rfl, hd, hi, hj, hk0, hk, g⟩
      -- if draw[2] >= many
      refine ⟨_, rfl, d, _, 2, _, rfl, rfl, SqL.of hd, at_of (j := 2) rfl rfl, _, rfl, _, _, rfl, rfl, _, rfl, ifD (fun c => ?_) (fun c => ?_)⟩
      · refine ⟨_, rfl, d, _, 2, _, rfl, rfl, SqL.of hd, at_of (j := 2) rfl rfl, _, rfl, _, _, rfl, rfl, (by omega : m ≠ 0), ?_⟩
        refine ⟨_, rfl, d, _, 2, _, rfl, rfl, SqL.of hd, at_of (j := 2) rfl rfl, _, rfl, _, _, rfl, rfl, ⟨by omega, by omega⟩, _, rfl, _, _, _, 2, rfl, rfl, hd, rfl, ?_⟩
        have f0 := Int.fmod_nonneg_of_pos j m0
        have f1 := Int.fmod_lt_of_pos j m0
        have f2 : 0 ≤ j.fdiv m := Int.fdiv_nonneg hj (by omega)
        exact ⟨_, rfl, q _ _ f0 f1 (g.turnM _ rfl out) ⟨⟨a, ns, i, _, k, l, upd_same, ha, hi, f2, hk0, hk⟩, out⟩⟩
      · refine ⟨_, rfl, d, _, 4, _, rfl, rfl, SqL.of hd, at_of (j := 4) rfl rfl, _, _, rfl, rfl, _, rfl, _, _, _, 4, rfl, rfl, hd, rfl, ?_⟩
        refine ⟨_, rfl, d, _, 3, _, rfl, rfl, SqL.of upd_same, at_of (j := 3) rfl rfl, _, _, rfl, rfl, ⟨by decide, by decide, by omega⟩, _, rfl, d, _, 4, _, rfl, rfl, SqL.of upd_same, at_of (j := 4) rfl rfl, _, _, rfl, rfl, .inl ⟨by decide, by decide⟩, _, _, rfl, rfl, _, _, rfl, rfl, _, _, rfl, rfl, (by show (1000000007 : Int) ≠ 0; decide), _, rfl, _, _, _, 3, rfl, rfl, upd_same, rfl, ?_⟩
        have f0 := Int.fmod_nonneg_of_pos (k ^ Int.toNat 3 + 40503 * (l + 1) + 17) (show (0 : Int) < 1000000007 by decide)
        have f1 := Int.fmod_lt_of_pos (k ^ Int.toNat 3 + 40503 * (l + 1) + 17) (show (0 : Int) < 1000000007 by decide)
        refine ⟨_, rfl, d, _, 3, _, rfl, rfl, SqL.of upd_same, at_of (j := 3) rfl rfl, _, _, rfl, rfl, ⟨by decide, by decide⟩, _, rfl, _, _, rfl, rfl, (by omega : m ≠ 0), ?_⟩
        exact q _ _ (Int.fmod_nonneg_of_pos _ m0) (Int.fmod_lt_of_pos _ m0) ((g.turnM _ rfl out).turnM _ rfl out) ⟨⟨a, ns, i, j, _, _, upd_same, ha, hi, hj, f0, by omega⟩, out⟩
abbrev s_begin : Stmt := topS 11
theorem sc_begin : FnScope ["_law_script"] ["_law_script"] (defScope s_begin) := ⟨rfl, rfl, rfl, by decide +kernel, rfl, by decide +kernel, by decide +kernel⟩
def spBegin (K : PySem.W.Frag) : Sp := fun vs H Q _ => ∃ (a : Addr) (ns : List Int) (H0 : Hp), vs = [.ref a] ∧ SqL K H a (ns.map V.int) ∧ Ex H0 H ∧
  ∀ (d : Addr) (H0' H' : Hp), Go (fun _ => False) H0 H H0' H' → Dr H0' H' d → H d = none → Q (.ref d) H'
theorem ok_begin {f : Addr} {fd : FuncData} (F : Fun K "_law_begin" "_law_begin" s_begin f fd) (m_list : mg "list" = none) : FnOk P w K mg base CX0 1 f fd ["_law_script"] (spBegin K) := by
  refine F.ok sc_begin (fun vs H Q E h => ?_) (fun cdv A outer s H vs Q E hr h => ?_)
  · obtain ⟨a, ns, H0, rfl, _⟩ := h
    rfl
  · obtain ⟨a, ns, H0, rfl, hS, e0, q⟩ := h
    refine ⟨_, (pss_one (ps_ret (pe_lst (pa_cons (pe_callTy call_list_of (by rfl) m_list bt_list (pa_cons (pe_slice sl_list (pv 0) po_none (po_some pe_int)) pa_nil)) (pa_cons pe_int (pa_cons pe_int (pa_cons pe_int (pa_cons pe_int pa_nil)))))))), ?_⟩
    obtain ⟨ms, hms⟩ : ∃ ms : List Int, cutV (ns.map V.int) none (some 63) = ms.map V.int := ⟨_, by unfold cutV; rw [← List.map_drop, ← List.map_take]⟩
    refine ⟨.ref a, rfl, 63, rfl, a, _, rfl, hS, fun c hc => ?_⟩
    refine ⟨c, _, rfl, .inl (SqL.of upd_same), fun l hl => ?_⟩
    rw [hms] at hl ⊢
    refine ⟨(by show 5 ≤ sizeLine; decide), fun d hd => ?_⟩
    have g0 := Go.refl (m := fun _ => False) e0
    have g1 := g0.lay (.lst (ms.map V.int)) hc
    have g2 := g1.put (.lst (ms.map V.int)) hl
    have g3 := g2.lay (.lst [.ref l, .int 0, .int 0, .int 1, .int 0]) hd
    have nH : H d = none := g2.fresh hd
    exact q d _ _ g3 ⟨⟨l, ms, 0, 0, 1, 0, upd_same, upd_same, by decide, by decide, by decide, by decide⟩, g2.fresh0 hd⟩ nH
abbrev s_one : Stmt := topS 13
theorem sc_one : FnScope ["_law_draw", "_law_some"] ["_law_draw", "_law_some"] (defScope s_one) := ⟨rfl, rfl, rfl, by decide +kernel, rfl, by decide +kernel, by decide +kernel⟩
def spOne : Sp := fun vs H Q _ => ∃ (d p : Addr) (xs : List V) (H0 : Hp), vs = [.ref d, .ref p] ∧ Ex H0 H ∧ Dr H0 H d ∧ H0 p = some (.lst xs) ∧ 0 < xs.length ∧ xs.length ≤ 1000000000 ∧
  ∀ (i : Nat) (v : V) (H' : Hp), xs[i]? = some v → Go (· = d) H0 H H0 H' → Dr H0 H' d → Q v H'
theorem ok_one {f : Addr} {fd : FuncData} (F : Fun K "_law_one" "_law_one" s_one f fd) (D__law_pick : Def P w K mg base "_law_pick" 1 spPick) (m_len : mg "len" = none) : FnOk P w K mg base CX0 2 f fd ["_law_draw", "_law_some"] spOne := by
  refine F.ok sc_one (fun vs H Q E h => ?_) (fun cdv A outer s H vs Q E hr h => ?_)
  · obtain ⟨d, p, xs, H0, rfl, _⟩ := h
    rfl
  · obtain ⟨d, p, xs, H0, rfl, e0, hD, hp, l0, l1, q⟩ := h
    refine ⟨_, (pss_one (ps_ret (pe_ix ix_list (pv 1) (pe_d D__law_pick (hr.mono (by decide)) rfl (pa_cons (pv 0) (pa_cons (pe_callB call_len_seq (by rfl) m_len PySem.boot_len (pa_cons (pv 1) pa_nil)) pa_nil))) (fun _ _ => rfl)))), ?_⟩
    refine ⟨.ref p, rfl, .ref d, rfl, .ref p, rfl, p, xs, rfl, .inl (SqL.of (e0 _ _ hp)), d, (xs.length : Int), H0, rfl, by omega, by omega, e0, hD, fun r H' r0 r1 g hD' => ?_⟩
    obtain ⟨j, rfl⟩ : ∃ j : Nat, r = (j : Int) := ⟨r.toNat, by omega⟩
    have hj : j < xs.length := by omega
    exact ⟨p, xs, (j : Int), _, rfl, rfl, SqL.of (g.inn _ _ hp), at_of (j := j) rfl (List.getElem?_eq_getElem hj), q j _ _ (List.getElem?_eq_getElem hj) g hD'⟩
abbrev s_gap_bytes : Stmt := topS 8
theorem sc_gap_bytes : FnScope ["number", "row", "rest"] ["number"] (defScope s_gap_bytes) := ⟨rfl, rfl, rfl, by decide +kernel, rfl, by decide +kernel, by decide +kernel⟩
/-- gap_bytes of a number within its bounds: a new list -/
def spGapBytes : Sp := fun vs H Q _ => ∃ (n : Nat) (H0 : Hp), vs = [.int (n : Int)] ∧ n < 268435456 ∧ Ex H0 H ∧
  ∀ (p : Addr) (H' : Hp), Go (fun _ => False) H0 H H0 H' → H p = none → H' p = some (.lst (nums (gapB n))) → Q (.ref p) H'
theorem ok_gap_bytes {f : Addr} {fd : FuncData} (F : Fun K "gap_bytes" "gap_bytes" s_gap_bytes f fd) (c_MOST_GAP : ∃ u, mg "MOST_GAP" = some u ∧ L2.RelV (.int 268435455) u) (c_BASE : ∃ u, mg "BASE" = some u ∧ L2.RelV (.int 128) u) : FnOk P w K mg base CX0 1 f fd ["number"] spGapBytes := by
  refine F.ok sc_gap_bytes (fun vs H Q E h => ?_) (fun cdv A outer s H vs Q E hr h => ?_)
  · obtain ⟨n, H0, rfl, _⟩ := h
    rfl
  · obtain ⟨n, H0, rfl, hn, e0, q⟩ := h
    refine ⟨_, (pss_cons (ps_if (PW.pt (pw_or (pt_cmpR op_lt (pv 0) pe_int (nomark _)) (pw_or1 (pt_cmpR op_gt (pv 0) (C8.pe_gc rfl c_MOST_GAP) (nomark _))))) (pss_one ps_never) pss_nil)
      (pss_cons (ps_set (i := 1) sc_gap_bytes.nd rfl (Or.inl rfl) (pe_lst (pa_cons (pe_op op_mod (pv 0) (C8.pe_gc rfl c_BASE)) pa_nil)))
      (pss_cons (ps_set (i := 2) sc_gap_bytes.nd rfl (Or.inl rfl) (pe_op op_fdiv (pv 0) (C8.pe_gc rfl c_BASE)))
      (pss_cons (ps_while PassesOwn.never (pt_cmpR op_gt (pv 2) pe_int (nomark _)) (pss_cons (ps_expr (pe_bm PySem.F.plainAttrs_list PySem.F.slot_list_append PySem.F.type_list_append mt_append (pv 1) (pa_cons (pe_op op_add (C8.pe_gc rfl c_BASE) (pe_op op_mod (pv 2) (C8.pe_gc rfl c_BASE))) pa_nil)))
      (pss_one (ps_set (i := 2) sc_gap_bytes.nd rfl (Or.inl rfl) (pe_op op_fdiv (pv 2) (C8.pe_gc rfl c_BASE))))))
      (pss_cons (ps_expr (pe_bm0 PySem.F.plainAttrs_list PySem.F.slot_list_reverse PySem.F.type_list_reverse mt_reverse (pv 1)))
      (pss_one (ps_ret (pv 1)))))))), ?_⟩
    -- if number < 0 or number > MOST_GAP
    refine ⟨_, rfl, _, _, rfl, rfl, _, rfl, ifF (decide_eq_false (by omega)) ?_⟩
    refine ⟨_, rfl, _, _, rfl, rfl, _, rfl, ifF (decide_eq_false (by omega)) ?_⟩
    -- row = [number % BASE]
    refine ⟨_, rfl, _, _, rfl, rfl, (by show (0 : Int) < 128; decide), (by show 1 ≤ sizeLine; decide), fun p hp => ?_⟩
    have g0 := Go.refl (m := fun _ => False) e0
    have g1 := g0.lay (.lst [V.int ((n : Int) % 128)]) hp
    -- rest = number // BASE
    refine ⟨_, rfl, _, _, rfl, rfl, ⟨by decide, by decide⟩, ?_⟩
    -- while rest > 0
    refine ⟨fun m σ H' => ∃ (l : List Nat), σ = [some (.int (n : Int)), some (.ref p), some (.int (m : Int))] ∧ H' p = some (.lst (nums l)) ∧ Go (fun _ => False) H0 H H0 H' ∧ l.length + (gtl m).length ≤ 10 ∧ l ++ gtl m = (n % 128) :: gtl (n / 128), ⟨n / 128, [n % 128], rfl, upd_same, g1, ?_, rfl⟩, ?_⟩
    · have := gtl_len 3 (n / 128) (by omega)
      show 1 + _ ≤ 10
      omega
    · rintro m σ H' ⟨l, rfl, hl, g, l10, el⟩
      refine ⟨_, rfl, _, _, rfl, rfl, _, rfl, ifD (fun c => ?_) (fun c => ?_)⟩
      · have hm : m ≠ 0 := by omega
        have e1 : gtl m = (128 + m % 128) :: gtl (m / 128) := gtl1 hm
        refine ⟨fun σ' H2 => ∃ (l : List Nat), σ' = [some (.int (n : Int)), some (.ref p), some (.int ((m / 128 : Nat) : Int))] ∧ H2 p = some (.lst (nums l)) ∧ Go (fun _ => False) H0 H H0 H2 ∧ l.length + (gtl (m / 128)).length ≤ 10 ∧ l ++ gtl (m / 128) = (n % 128) :: gtl (n / 128), fun σ' H2 ⟨l', h'⟩ => ⟨m / 128, by omega, l', h'⟩, ?_⟩
        -- row.append(BASE + rest % BASE); rest = rest // BASE
        refine ⟨_, rfl, .inl ⟨rfl, _, SqL.of hl⟩, _, rfl, _, _, rfl, rfl, (by show (0 : Int) < 128; decide), _, _, rfl, rfl, p, _, _, rfl, rfl, hl, mem_lt (by rw [nums_len]; omega), ?_⟩
        refine ⟨_, rfl, _, _, rfl, rfl, ⟨by decide, by decide⟩, ?_⟩
        refine ⟨l ++ [128 + m % 128], rfl, ?_, g.turn _ hp (e0.free hp), ?_, ?_⟩
        · rw [upd_same, nums_snoc]
          rfl
        · rw [e1] at l10
          simp only [List.length_append, List.length_cons, List.length_nil] at l10 ⊢
          omega
        · rw [e1] at el
          rw [← el, List.append_assoc]
          rfl
      · have hm : m = 0 := by omega
        subst hm
        rw [gtl0, List.append_nil] at el
        refine ⟨_, rfl, .inl ⟨rfl, _, SqL.of hl⟩, p, _, rfl, rfl, hl, ?_⟩
        refine ⟨_, rfl, q p _ (g.turn _ hp (e0.free hp)) hp ?_⟩
        rw [upd_same, el]
        show some (HO.lst (nums ((n % 128) :: gtl (n / 128))).reverse) = _
        unfold nums gapB
        rw [List.map_reverse]
abbrev s_gap_read : Stmt := topS 9
theorem sc_gap_read : FnScope ["row", "at", "number", "place"] ["row", "at"] (defScope s_gap_read) := ⟨rfl, rfl, rfl, by decide +kernel, rfl, by decide +kernel, by decide +kernel⟩
/-- gap_read where the bytes of n stand: a new pair -/
def spGapRead : Sp := fun vs H Q _ => ∃ (r : Addr) (xs rest : List Nat) (at_ n : Nat) (H0 : Hp), vs = [.ref r, .int (at_ : Int)] ∧ Ex H0 H ∧ H0 r = some (.lst (nums xs)) ∧ xs.drop at_ = gapB n ++ rest ∧ n < 268435456 ∧
  ∀ (p : Addr) (H' : Hp), Go (fun _ => False) H0 H H0 H' → H p = none → H' p = some (.tup [.int (n : Int), .int ((at_ + (gapB n).length : Nat) : Int)]) → Q (.ref p) H'
theorem ok_gap_read {f : Addr} {fd : FuncData} (F : FunD K "gap_read" "gap_read" (defArgs s_gap_read) (defBody s_gap_read) (defScope s_gap_read) [.int 0] [] f fd) (m_len : mg "len" = none) (c_MOST_SIZE : ∃ u, mg "MOST_SIZE" = some u ∧ L2.RelV (.int 4) u) (c_BASE : ∃ u, mg "BASE" = some u ∧ L2.RelV (.int 128) u) : FnOk P w K mg base CX0 1 f fd ["row", "at"] spGapRead := by
  refine okD0 F sc_gap_read (fun vs H Q E h => ?_) (fun cdv A outer s H vs Q E hr h => ?_)
  · obtain ⟨r, xs, rest, a, n, H0, rfl, _⟩ := h
    rfl
  · obtain ⟨r, xs, rest, a, n, H0, rfl, e0, hr0, hx, hn, q⟩ := h
    refine ⟨_, (pss_cons (ps_set (i := 2) sc_gap_read.nd rfl (Or.inl rfl) pe_int)
      (pss_cons (ps_set (i := 3) sc_gap_read.nd rfl (Or.inl rfl) (pv 1))
      (pss_cons (ps_while PassesOwn.never (PW.pt (pw_and (pt_cmpR op_lt (pv 3) (pe_callB call_len_seq (by rfl) m_len PySem.boot_len (pa_cons (pv 0) pa_nil)) (nomark _)) (pw_and1 (pt_cmpR op_ge (pe_ix ix_list (pv 0) (pv 3) (fun _ _ => rfl)) (C8.pe_gc rfl c_BASE) (nomark _))))) (pss_cons (ps_if (PW.pt (pw_or (PW.pt (pw_and (pt_cmpR op_eq (pv 3) (pv 1) (nomark _)) (pw_and1 (pt_cmpR op_eq (pe_ix ix_list (pv 0) (pv 3) (fun _ _ => rfl)) (C8.pe_gc rfl c_BASE) (nomark _))))) (pw_or1 (pt_cmpR op_eq (pv 3) (pe_op op_sub (pe_op op_add (pv 1) (C8.pe_gc rfl c_MOST_SIZE)) pe_int) (nomark _))))) (pss_one ps_never) pss_nil)
      (pss_cons (ps_set (i := 2) sc_gap_read.nd rfl (Or.inl rfl) (pe_op op_sub (pe_op op_add (pe_op op_mul (pv 2) (C8.pe_gc rfl c_BASE)) (pe_ix ix_list (pv 0) (pv 3) (fun _ _ => rfl))) (C8.pe_gc rfl c_BASE)))
      (pss_one (ps_aug (i := 3) sc_gap_read.nd rfl (Or.inl rfl) pe_int ip_add)))))
      (pss_cons (ps_if (pt_cmpR op_ge (pv 3) (pe_callB call_len_seq (by rfl) m_len PySem.boot_len (pa_cons (pv 0) pa_nil)) (nomark _)) (pss_one ps_never) pss_nil)
      (pss_one (ps_ret (pe_tup (pa_cons (pe_op op_add (pe_op op_mul (pv 2) (C8.pe_gc rfl c_BASE)) (pe_ix ix_list (pv 0) (pv 3) (fun _ _ => rfl))) (pa_cons (pe_op op_add (pv 3) pe_int) pa_nil))))))))), ?_⟩
    have hR : H r = some (.lst (nums xs)) := e0 _ _ hr0
    have gl := gapB_len hn
    have gp := gapB_pos n
    have xat : ∀ i b, (gapB n)[i]? = some b → xs[a + i]? = some b := fun i b h => by
      rw [← List.getElem?_drop, hx, List.getElem?_append_left (List.getElem?_eq_some_iff.mp h).1]
      exact h
    have hlen : a + (gapB n).length ≤ xs.length := by
      have := congrArg List.length hx
      rw [List.length_drop, List.length_append] at this
      omega
    refine ⟨_, rfl, fun m σ H' => ∃ (i : Nat), m = (gapB n).length - i ∧ i < (gapB n).length ∧ σ = [some (.ref r), some (.int (a : Int)), some (.int (val ((gapB n).take i) : Nat)), some (.int ((a + i : Nat) : Int))] ∧ H' = H, ⟨_, 0, rfl, gp, rfl, rfl⟩, ?_⟩
    rintro m σ H' ⟨i, rfl, hi, rfl, rfl⟩
    obtain ⟨b, hb⟩ : ∃ b, (gapB n)[i]? = some b := ⟨_, List.getElem?_eq_getElem hi⟩
    have hxb := xat i b hb
    have hb256 : b < 256 := gapB_all n b (List.mem_of_getElem? hb)
    have et : (gapB n).take (i + 1) = (gapB n).take i ++ [b] := by
      rw [List.take_add_one, hb]
      rfl
    -- place < len(row) and row[place] >= BASE
    refine ⟨_, rfl, _, rfl, r, _, rfl, .inl (SqL.of hR), _, _, rfl, rfl, _, rfl, ifT (decide_eq_true (by rw [nums_len]; omega)) ?_⟩
    refine ⟨_, rfl, _, rfl, r, _, _, _, rfl, rfl, SqL.of hR, at_of (j := a + i) rfl (nums_at hxb), _, _, rfl, rfl, _, rfl, ifD (fun c => ?_) (fun c => ?_)⟩
    · have hi2 : i + 1 < (gapB n).length := by
        by_cases z : i + 1 = (gapB n).length
        · have := gapB_end hb z
          omega
        · omega
      refine ⟨fun σ' H2 => σ' = [some (.ref r), some (.int (a : Int)), some (.int (val ((gapB n).take (i + 1)) : Nat)), some (.int ((a + (i + 1) : Nat) : Int))] ∧ H2 = H', fun σ' H2 ⟨h1, h2⟩ => ⟨(gapB n).length - (i + 1), by omega, i + 1, rfl, hi2, h1, h2⟩, ?_⟩
      -- if place == at and row[place] == BASE or place == at + MOST_SIZE - 1
      have c2 : ¬ ((a + i : Nat) : Int) = (a : Int) + 4 - 1 := by omega
      have third : ∀ (A B : Prop), B → (if decide (V.int ((a + i : Nat) : Int) = V.int ((a : Int) + 4 - 1)) = true then A else B) := fun A B hB => ifF (decide_eq_false fun z => c2 (V.int.inj z)) hB
      have body : ∀ (Q : L2.St → Hp → Prop), Q [some (.ref r), some (.int (a : Int)), some (.int (val ((gapB n).take (i + 1)) : Nat)), some (.int ((a + (i + 1) : Nat) : Int))] H' →
          Q [some (.ref r), some (.int (a : Int)), some (.int (((val ((gapB n).take i) : Nat) : Int) * 128 + (b : Int) - 128)), some (.int (((a + i : Nat) : Int) + 1))] H' := fun Q h => by
        have h3 : val ((gapB n).take (i + 1)) = val ((gapB n).take i) * 128 + b % 128 := by
          rw [et]
          exact val_snoc _ _
        have e1 : ((val ((gapB n).take i) : Nat) : Int) * 128 + (b : Int) - 128 = ((val ((gapB n).take (i + 1)) : Nat) : Int) := by omega
        have e2 : (((a + i : Nat) : Int) + 1) = ((a + (i + 1) : Nat) : Int) := by omega
        rw [e1, e2]
        exact h
      refine ⟨_, rfl, _, rfl, rfl, _, rfl, ifD (fun c3 => ?_) (fun c3 => ?_)⟩
      · have i0 : i = 0 := by
          have := V.int.inj c3
          omega
        subst i0
        have nb : b ≠ 128 := gapB_head hb (by omega)
        refine ⟨_, rfl, _, rfl, r, _, _, _, rfl, rfl, SqL.of hR, at_of (j := a + 0) rfl (nums_at hxb), rfl, _, rfl, ifF (decide_eq_false fun z => nb (by have := V.int.inj z; omega)) ?_⟩
        refine ⟨_, rfl, _, rfl, _, _, rfl, rfl, _, _, rfl, rfl, rfl, _, rfl, third _ _ ?_⟩
        refine ⟨_, rfl, _, _, rfl, rfl, .inr ⟨by decide, by decide⟩, _, rfl, _, rfl, r, _, _, _, rfl, rfl, SqL.of hR, at_of (j := a + 0) rfl (nums_at hxb), _, _, rfl, rfl, _, _, rfl, rfl, ?_⟩
        exact ⟨_, rfl, _, _, rfl, rfl, body (fun σ' H2 => σ' = _ ∧ H2 = H') ⟨rfl, rfl⟩⟩
      · refine ifF rfl ?_
        refine ⟨_, rfl, _, rfl, _, _, rfl, rfl, _, _, rfl, rfl, rfl, _, rfl, third _ _ ?_⟩
        refine ⟨_, rfl, _, _, rfl, rfl, .inr ⟨by decide, by decide⟩, _, rfl, _, rfl, r, _, _, _, rfl, rfl, SqL.of hR, at_of (j := a + i) rfl (nums_at hxb), _, _, rfl, rfl, _, _, rfl, rfl, ?_⟩
        exact ⟨_, rfl, _, _, rfl, rfl, body (fun σ' H2 => σ' = _ ∧ H2 = H') ⟨rfl, rfl⟩⟩
    · have hi2 : i + 1 = (gapB n).length := by
        by_cases z : i + 1 = (gapB n).length
        · exact z
        · have := gapB_mid hb (by omega)
          omega
      -- if place >= len(row)
      refine ⟨_, rfl, _, rfl, r, _, rfl, .inl (SqL.of hR), _, _, rfl, rfl, _, rfl, ifF (decide_eq_false (by rw [nums_len]; omega)) ?_⟩
      refine ⟨_, rfl, _, _, rfl, rfl, .inr ⟨by decide, by decide⟩, _, rfl, _, rfl, r, _, _, _, rfl, rfl, SqL.of hR, at_of (j := a + i) rfl (nums_at hxb), _, _, rfl, rfl, _, rfl, _, _, rfl, rfl, (by show 2 ≤ sizeLine; decide), fun p hp => ?_⟩
      refine q p _ ((Go.refl e0).lay _ hp) hp ?_
      have ev : n = val ((gapB n).take i) * 128 + b := by
        have h1 := val_gapB n
        have h2 : (gapB n).take (i + 1) = gapB n := List.take_of_length_le (by omega)
        rw [h2] at et
        have := gapB_end hb hi2
        have h3 : val (gapB n) = val ((gapB n).take i) * 128 + b % 128 := by
          conv => lhs; rw [et]
          exact val_snoc _ _
        omega
      rw [upd_same]
      have e1 : ((val ((gapB n).take i) : Nat) : Int) * 128 + (b : Int) = (n : Int) := by omega
      have e2 : (((a + i : Nat) : Int) + 1) = ((a + (gapB n).length : Nat) : Int) := by omega
      show some (HO.tup [V.int (((val ((gapB n).take i) : Nat) : Int) * 128 + (b : Int)), V.int (((a + i : Nat) : Int) + 1)]) = _
      rw [e1, e2]
abbrev s_numbers : Stmt := topS 14
theorem sc_numbers : FnScope ["_law_row", "_law_one_here"] ["_law_row"] (defScope s_numbers) := ⟨rfl, rfl, rfl, by decide +kernel, rfl, by decide +kernel, by decide +kernel⟩
/-- a list of numbers -/
def spNumbers : Sp := fun vs H Q _ => ∃ (r : Addr) (ns : List Nat) (H0 : Hp), vs = [.ref r] ∧ Ex H0 H ∧ H0 r = some (.lst (nums ns)) ∧ ns.length ≤ 1000000 ∧ ∀ (H' : Hp), Go (fun _ => False) H0 H H0 H' → Q (.bl true) H'
theorem ok_numbers {f : Addr} {fd : FuncData} (F : Fun K "_law_numbers" "_law_numbers" s_numbers f fd) (m_isinstance : mg "isinstance" = none) (m_list : mg "list" = none) (m_bool : mg "bool" = none) (m_int : mg "int" = none) (m_any : mg "any" = none) (m_all : mg "all" = none) : FnOk P w K mg base CX0 1 f fd ["_law_row"] spNumbers := by
  refine F.ok sc_numbers (fun vs H Q E h => ?_) (fun cdv A outer s H vs Q E hr h => ?_)
  · obtain ⟨r, ns, H0, rfl, _⟩ := h
    rfl
  · obtain ⟨r, ns, H0, rfl, e0, hr0, hn, q⟩ := h
    refine ⟨_, (pss_cons (ps_if (PW.pt (pw_or (pt_not (pt_val (pe_callB call_isi (by rfl) m_isinstance bt_isinstance (pa_cons (pv 0) (pa_cons (pe_bltn (v := .ty "list") (by rfl) m_list bt_list rfl) pa_nil))))) (pw_or1 (pt_val (pe_callB (cr_any rfl) (by rfl) m_any bt_any (pa_cons (pe_lc (own := [("_law_one_here", 1)]) (g := gName 1) (tt := tYes) rfl sc_numbers.nd (pi_list (pv 0)) (blkOk_by (N := ["_law_row", "_law_one_here"]) (sc := defScope s_numbers) (by decide +kernel)) (fun _ _ _ _ _ => pg_name (i := 1) sc_numbers.nd rfl (Or.inl rfl)) (fun _ _ _ _ _ => pts_nil) (fun _ _ _ _ _ => (pe_callB (r := rIsi K) call_isi (by rfl) m_isinstance bt_isinstance (pa_cons (pv 1) (pa_cons (pe_bltn (v := .ty "bool") (by rfl) m_bool bt_bool rfl) pa_nil))))) pa_nil)))))) (pss_one (ps_ret pe_bl)) pss_nil)
      (pss_one (ps_ret (pe_callB (cr_all rfl) (by rfl) m_all bt_all (pa_cons (pe_lc (own := [("_law_one_here", 1)]) (g := gName 1) (tt := tYes) rfl sc_numbers.nd (pi_list (pv 0)) (blkOk_by (N := ["_law_row", "_law_one_here"]) (sc := defScope s_numbers) (by decide +kernel)) (fun _ _ _ _ _ => pg_name (i := 1) sc_numbers.nd rfl (Or.inl rfl)) (fun _ _ _ _ _ => pts_nil) (fun _ _ _ _ _ => (pe_callB (r := rIsi K) call_isi (by rfl) m_isinstance bt_isinstance (pa_cons (pv 1) (pa_cons (pe_bltn (v := .ty "int") (by rfl) m_int bt_int rfl) pa_nil))))) pa_nil))))), ?_⟩
    have hR : H r = some (.lst (nums ns)) := e0 _ _ hr0
    have rep : ∀ (n : Nat) (b : Bool), List.replicate n (V.bl b) = (List.replicate n b).map V.bl := fun n b => by rw [List.map_replicate]
    -- not isinstance(row, list)
    refine ⟨_, rfl, _, _, _, _, true, rfl, .ty "list", .base (.lst hR), kit_ty (by decide +kernel), _, rfl, ifF rfl ?_⟩
    -- any([isinstance(x, bool) ..])
    have g0 := Go.refl (m := fun _ => False) e0
    refine ⟨_, rfl, r, rfl, ⟨_, SqL.of hR⟩, fun D hD => lc_list (xs := nums ns) (fun i H' => H' D = some (.lst (List.replicate i (.bl false))) ∧ Go (fun _ => False) H0 H H0 H') ⟨upd_same, g0.lay _ hD⟩ (fun i H' _ p => SqL.of (p.2.inn _ _ hr0)) (fun i x H' hi p => ?_) (fun H1 p => ?_)⟩
    · obtain ⟨b, hb, rfl⟩ := nums_inv hi
      have hl := (List.getElem?_eq_some_iff.mp hb).1
      refine ⟨rfl, ?_⟩
      refine ⟨_, rfl, _, _, _, _, false, rfl, .ty "bool", .base (.int _), kit_ty (by decide +kernel), _, p.1, mem_lt (by rw [List.length_replicate]; omega), ?_, p.2.turn _ hD (e0.free hD)⟩
      rw [upd_same, List.replicate_succ']
    · obtain ⟨p1, p2⟩ := p
      have pn : H1 D = some (.lst ((List.replicate (nums ns).length false).map V.bl)) := by rw [p1, rep]
      refine ⟨D, _, rfl, SqL.of pn, _, rfl, ifF ?_ ?_⟩
      · induction (nums ns).length with
        | zero => rfl
        | succ k ih => rw [List.replicate_succ, List.any_cons, ih]; rfl
      -- all([isinstance(x, int) ..])
      refine ⟨_, rfl, r, rfl, ⟨_, SqL.of (p2.inn _ _ hr0)⟩, fun D2 hD2 => lc_list (xs := nums ns) (fun i H' => H' D2 = some (.lst (List.replicate i (.bl true))) ∧ Go (fun _ => False) H0 H H0 H') ⟨upd_same, p2.lay _ hD2⟩ (fun i H' _ p => SqL.of (p.2.inn _ _ hr0)) (fun i x H' hi p => ?_) (fun H1 p => ?_)⟩
      · obtain ⟨b, hb, rfl⟩ := nums_inv hi
        have hl := (List.getElem?_eq_some_iff.mp hb).1
        refine ⟨rfl, ?_⟩
        refine ⟨_, rfl, _, _, _, _, true, rfl, .ty "int", .base (.int _), kit_ty (by decide +kernel), _, p.1, mem_lt (by rw [List.length_replicate]; omega), ?_, p.2.turn _ (p2.fresh hD2) (p2.fresh0 hD2)⟩
        rw [upd_same, List.replicate_succ']
      · have pn : H1 D2 = some (.lst ((List.replicate (nums ns).length true).map V.bl)) := by rw [p.1, rep]
        refine ⟨D2, _, rfl, SqL.of pn, ?_⟩
        have ea : (List.replicate (nums ns).length true).all id = true := by
          induction (nums ns).length with
          | zero => rfl
          | succ k ih => rw [List.replicate_succ, List.all_cons, ih]; rfl
        rw [ea]
        exact q _ p.2
end
end Rt

namespace Rt
open PySem PySem.Spec PyProof.Rows L2
section
variable {P : Program} {w : World} {K : PySem.W.Frag} {mg : Str → Option Value} {base : Heap}
abbrev s_law_k03 : Stmt := topS 15
theorem sc_law_k03 : FnScope ["_law_script", "_law_draw", "_law_numbers_here", "_law_k", "_law_near", "_law_row", "_law_number", "_law_at", "_law_found", "_law_place", "_law_total", "_law_rows"] ["_law_script"] (defScope s_law_k03) := ⟨rfl, rfl, rfl, by decide +kernel, rfl, by decide +kernel, by decide +kernel⟩
def spLaw (K : PySem.W.Frag) : Sp := fun vs H Q _ => ∃ (a : Addr) (ns : List Int), vs = [.ref a] ∧ SqL K H a (ns.map V.int) ∧ ∀ H', Q (.bl true) H'
theorem ok_law {f : Addr} {fd : FuncData} (F : Fun K "law" "law" s_law_k03 f fd) (D__law_begin : Def P w K mg base "_law_begin" 1 (spBegin K)) (D__law_pick : Def P w K mg base "_law_pick" 1 spPick) (D__law_one : Def P w K mg base "_law_one" 2 spOne)
    (D_gap_bytes : Def P w K mg base "gap_bytes" 1 spGapBytes) (D_gap_read : Def P w K mg base "gap_read" 1 spGapRead) (D__law_numbers : Def P w K mg base "_law_numbers" 1 spNumbers)
    (m_range : mg "range" = none) (m_len : mg "len" = none) (m_sorted : mg "sorted" = none) (m_any : mg "any" = none) : FnOk P w K mg base CX0 4 f fd ["_law_script"] (spLaw K) := by
  refine F.ok sc_law_k03 (fun vs H Q E h => ?_) (fun cdv A outer s H vs Q E hr h => ?_)
  · obtain ⟨a, ns, rfl, _⟩ := h
    rfl
  · obtain ⟨a, ns, rfl, hS, q⟩ := h
    refine ⟨_, (pss_cons (ps_set (i := 1) sc_law_k03.nd rfl (Or.inl rfl) (pe_d D__law_begin (hr.mono (by decide)) rfl (pa_cons (pv 0) pa_nil)))
      (pss_cons (ps_set (i := 2) sc_law_k03.nd rfl (Or.inl rfl) (pe_lst pa_nil))
      (pss_cons (ps_for PassesOwn.never rfl (pi_range1 rfl m_range (pa_cons (pe_d D__law_pick (hr.mono (by decide)) rfl (pa_cons (pv 1) (pa_cons pe_int pa_nil))) pa_nil)) (pg_name (i := 3) sc_law_k03.nd rfl (Or.inl rfl)) (pss_cons (ps_set (i := 4) sc_law_k03.nd rfl (Or.inl rfl) (pe_op op_add (pe_op op_sub (pe_ix ix_tup (pe_tup (pa_cons pe_int (pa_cons pe_int (pa_cons pe_int pa_nil)))) (pe_d D__law_pick (hr.mono (by decide)) rfl (pa_cons (pv 1) (pa_cons pe_int pa_nil))) (fun _ _ => rfl)) pe_int) (pe_d D__law_pick (hr.mono (by decide)) rfl (pa_cons (pv 1) (pa_cons pe_int pa_nil)))))
      (pss_one (ps_expr (pe_bm PySem.F.plainAttrs_list PySem.F.slot_list_append PySem.F.type_list_append mt_append (pv 2) (pa_cons (pe_d D__law_one (hr.mono (by decide)) rfl (pa_cons (pv 1) (pa_cons (pe_lst (pa_cons (pv 4) (pa_cons (pe_d D__law_pick (hr.mono (by decide)) rfl (pa_cons (pv 1) (pa_cons pe_int pa_nil))) (pa_cons (pe_d D__law_pick (hr.mono (by decide)) rfl (pa_cons (pv 1) (pa_cons pe_int pa_nil))) pa_nil)))) pa_nil))) pa_nil))))))
      (pss_cons (ps_set (i := 5) sc_law_k03.nd rfl (Or.inl rfl) (pe_lst pa_nil))
      (pss_cons (ps_for PassesOwn.never rfl (pi_list (pv 2)) (pg_name (i := 6) sc_law_k03.nd rfl (Or.inl rfl)) (pss_one (ps_set (i := 5) sc_law_k03.nd rfl (Or.inl rfl) (pe_op op_cat (pv 5) (pe_d D_gap_bytes (hr.mono (by decide)) rfl (pa_cons (pv 6) pa_nil))))))
      (pss_cons (ps_set (i := 7) sc_law_k03.nd rfl (Or.inl rfl) pe_int)
      (pss_cons (ps_for PassesOwn.never rfl (pi_list (pv 2)) (pg_name (i := 6) sc_law_k03.nd rfl (Or.inl rfl)) (pss_cons (ps_asg (pe_d D_gap_read (hr.mono (by decide)) rfl (pa_cons (pv 5) (pa_cons (pv 7) pa_nil))) (pg_tup rfl (pgs_cons (pg_name (i := 8) sc_law_k03.nd rfl (Or.inl rfl)) (pgs_cons (pg_name (i := 9) sc_law_k03.nd rfl (Or.inl rfl)) pgs_nil))))
      (pss_cons (ps_set (i := 10) sc_law_k03.nd rfl (Or.inl rfl) pe_int)
      (pss_cons (ps_for PassesOwn.never rfl (pi_range2 rfl m_range (pa_cons (pv 7) (pa_cons (pv 9) pa_nil))) (pg_name (i := 3) sc_law_k03.nd rfl (Or.inl rfl)) (pss_one (ps_set (i := 10) sc_law_k03.nd rfl (Or.inl rfl) (pe_op op_add (pe_op op_mul (pv 10) pe_int) (pe_op op_mod (pe_ix ix_list (pv 5) (pv 3) (fun _ _ => rfl)) pe_int)))))
      (pss_cons (ps_if (PW.pt (pw_or (pt_cmpR op_ne (pv 8) (pv 6) (nomark _)) (pw_or1 (pt_cmpR op_ne (pv 10) (pv 6) (nomark _))))) (pss_one (ps_ret pe_bl)) pss_nil)
      (pss_one (ps_set (i := 7) sc_law_k03.nd rfl (Or.inl rfl) (pv 9))))))))
      (pss_cons (ps_set (i := 11) sc_law_k03.nd rfl (Or.inr rfl) (pe_lc (own := [("_law_number", 6)]) (g := gName 6) (tt := tYes) rfl sc_law_k03.nd (pi_list (pe_callB cr_sortedI (by rfl) m_sorted bt_sorted (pa_cons (pv 2) pa_nil))) (blkOk_by (N := ["_law_script", "_law_draw", "_law_numbers_here", "_law_k", "_law_near", "_law_row", "_law_number", "_law_at", "_law_found", "_law_place", "_law_total", "_law_rows"]) (sc := defScope s_law_k03) (by decide +kernel)) (fun _ _ _ _ _ => pg_name (i := 6) sc_law_k03.nd rfl (Or.inl rfl)) (fun _ _ _ _ _ => pts_nil) (fun _ _ _ _ _ => (pe_d D_gap_bytes (hr.mono (by decide)) rfl (pa_cons (pv 6) pa_nil)))))
      (pss_cons (ps_if (pt_val (pe_callB (cr_any rfl) (by rfl) m_any bt_any (pa_cons (pe_lc (own := [("_law_k", 3)]) (g := gName 3) (tt := tYes) rfl sc_law_k03.nd (pi_range2 rfl m_range (pa_cons pe_int (pa_cons (pe_callB call_len_seq (by rfl) m_len PySem.boot_len (pa_cons (pv 11) pa_nil)) pa_nil))) (blkOk_by (N := ["_law_script", "_law_draw", "_law_numbers_here", "_law_k", "_law_near", "_law_row", "_law_number", "_law_at", "_law_found", "_law_place", "_law_total", "_law_rows"]) (sc := defScope s_law_k03) (by decide +kernel)) (fun _ _ _ _ _ => pg_name (i := 3) sc_law_k03.nd rfl (Or.inl rfl)) (fun _ _ _ _ _ => pts_nil) (fun _ _ _ _ _ => (pe_cmpR op_gt (pe_callB (r := rLenQ K) call_lenQ (by rfl) m_len PySem.boot_len (pa_cons (pe_ix (r := rIxL K) ix_list (pv 11) (pe_op op_sub (pv 3) pe_int) (fun _ _ => rfl)) pa_nil)) (pe_callB (r := rLenQ K) call_lenQ (by rfl) m_len PySem.boot_len (pa_cons (pe_ix (r := rIxL K) ix_list (pv 11) (pv 3) (fun _ _ => rfl)) pa_nil)) (nomark _)))) pa_nil))) (pss_one (ps_ret pe_bl)) pss_nil)
      (pss_one (ps_ret (pe_and (pe_cmpR op_eq (pv 7) (pe_callB call_len_seq (by rfl) m_len PySem.boot_len (pa_cons (pv 5) pa_nil)) (nomark _)) (pe_one (pe_d D__law_numbers (hr.mono (by decide)) rfl (pa_cons (pv 5) pa_nil))))))))))))))), ?_⟩
    -- draw = begin(script)
    refine ⟨_, rfl, a, ns, fun _ => none, rfl, hS, (fun b o z => by cases z), fun d H0 H1 gA hD _ => ?_⟩
    have e0 := gA.inn
    clear gA hS
    -- numbers = []
    refine ⟨Nat.zero_le _, fun l hl => ?_⟩
    have ndl := hD.ne hl
    -- for k in range(pick(draw, 13))
    refine ⟨_, rfl, d, 13, H0, rfl, by decide, by decide, e0.lay _ hl, hD.lay _ hl, fun r H2 r0 r1 g2 hD2 => ?_⟩
    have hl2 : H2 l = some (.lst (nums [])) := g2.keep _ _ upd_same ndl.symm
    have h0l : H0 l = none := e0.free hl
    refine ⟨r, rfl, by omega, by omega, for_range (lo := 0) (n := r.toNat) (fun i σ H' => ∃ (ms : List Nat) (v3 v4 : Option V) (H0' : Hp), σ = [some (.ref a), some (.ref d), some (.ref l), v3, v4, none, none, none, none, none, none, none] ∧ H' l = some (.lst (nums ms)) ∧ ms.length = i ∧ (∀ n ∈ ms, n < 268435456) ∧ Ex H0' H' ∧ Dr H0' H' d ∧ H0' l = none)
      ⟨[], none, none, H0, rfl, hl2, rfl, (fun n h => nomatch h), g2.inn, hD2, h0l⟩ ?_ ?_⟩
    · -- a turn
      clear hl2 h0l hD2 g2 hD e0 hl
      rintro i σ H hi ⟨ms, v3, v4, H0, rfl, hl, hm, hms, e0, hD, h0l⟩
      -- near = (128, 16384, 2097152)[pick(draw, 3)] - 2 + pick(draw, 4)
      refine ⟨(by show 3 ≤ sizeLine; decide), fun t ht => ?_⟩
      refine ⟨_, rfl, d, 3, H0, rfl, by decide, by decide, e0.lay _ ht, hD.lay _ ht, fun x H1 x0 x1 g1 hD1 => ?_⟩
      obtain ⟨j, rfl⟩ : ∃ j : Nat, x = (j : Int) := ⟨x.toNat, by omega⟩
      have hl1 : H1 l = some (.lst (nums ms)) := g1.keep _ _ (by rw [upd_ne (ne_of_none hl ht)]; exact hl) ndl.symm
      have ht1 : H1 t = some (.tup [.int 128, .int 16384, .int 2097152]) := g1.keep _ _ upd_same (hD.ne ht).symm
      obtain ⟨z, hz, z0, z1⟩ : ∃ z : Int, [V.int 128, V.int 16384, V.int 2097152][j]? = some (V.int z) ∧ 128 ≤ z ∧ z ≤ 2097152 := by
        match j, x1 with
        | 0, _ => exact ⟨128, rfl, by decide, by decide⟩
        | 1, _ => exact ⟨16384, rfl, by decide, by decide⟩
        | 2, _ => exact ⟨2097152, rfl, by decide, by decide⟩
        | j + 3, h => exact absurd h (by omega)
      refine ⟨t, _, _, _, rfl, rfl, SqT.of ht1, at_of (j := j) rfl hz, _, _, rfl, rfl, ?_⟩
      refine ⟨_, rfl, d, 4, H0, rfl, by decide, by decide, g1.inn, hD1, fun y H2 y0 y1 g2 hD2 => ?_⟩
      have hl2 := g2.keep _ _ hl1 ndl.symm
      refine ⟨_, _, rfl, rfl, ?_⟩
      -- numbers.append(one(draw, [near, pick(draw, 128), pick(draw, 268435456)]))
      refine ⟨_, rfl, .inl ⟨rfl, _, SqL.of hl2⟩, _, rfl, _, rfl, _, rfl, d, 128, H0, rfl, by decide, by decide, g2.inn, hD2, fun u H3 u0 u1 g3 hD3 => ?_⟩
      have hl3 := g3.keep _ _ hl2 ndl.symm
      refine ⟨_, rfl, d, 268435456, H0, rfl, by decide, by decide, g3.inn, hD3, fun v H4 v0 v1 g4 hD4 => ?_⟩
      have hl4 := g4.keep _ _ hl3 ndl.symm
      refine ⟨(by show 3 ≤ sizeLine; decide), fun p hp => ?_⟩
      have h0p := g4.inn.free hp
      have hl5 : upd H4 p (.lst [.int (z - 2 + y), .int u, .int v]) l = some (.lst (nums ms)) := by rw [upd_ne (ne_of_none hl4 hp)]; exact hl4
      have ndp := hD4.ne hp
      refine ⟨d, p, [.int (z - 2 + y), .int u, .int v], upd H0 p (.lst [.int (z - 2 + y), .int u, .int v]), rfl, (g4.inn.lay _ hp).set upd_same, (hD4.lay _ hp).set _ h0p ndp, upd_same, (by show 0 < 3; decide), (by show 3 ≤ 1000000000; decide), fun k w5 H6 hk g6 hD6 => ?_⟩
      have hl6 := g6.keep _ _ hl5 ndl.symm
      obtain ⟨n, rfl, hn⟩ : ∃ n : Nat, w5 = .int (n : Int) ∧ n < 268435456 := by
        match k, hk with
        | 0, hk =>
          have := Option.some.inj hk
          exact ⟨(z - 2 + y).toNat, by rw [← this]; congr 1; omega, by omega⟩
        | 1, hk =>
          have := Option.some.inj hk
          exact ⟨u.toNat, by rw [← this]; congr 1; omega, by omega⟩
        | 2, hk =>
          have := Option.some.inj hk
          exact ⟨v.toNat, by rw [← this]; congr 1; omega, by omega⟩
        | k + 3, hk => simp at hk
      have hnp : l ≠ p := ne_of_none hl4 hp
      have h6l : upd H0 p (.lst [.int (z - 2 + y), .int u, .int v]) l = none := by rw [upd_ne hnp]; exact h0l
      refine ⟨l, _, _, rfl, rfl, hl6, mem_lt (by rw [nums_len]; omega), ?_⟩
      refine ⟨ms ++ [n], _, _, upd H0 p (.lst [.int (z - 2 + y), .int u, .int v]), rfl, ?_, by rw [List.length_append, hm]; rfl, fun m hm2 => ?_, g6.inn.turn _ h6l, hD6.turn _ ndl, h6l⟩
      · rw [upd_same, nums_snoc]
      · rcases List.mem_append.mp hm2 with h | h
        · exact hms m h
        · rw [List.mem_singleton.mp h]; exact hn
    · -- behind the loop
      clear hl2 h0l hD2 g2 hD e0 hl
      rintro σ H ⟨ms, v3, v4, H0, rfl, hl, hm, hms, e0, hD, h0l⟩
      have hm12 : ms.length ≤ 12 := by omega
      have e1 : Ex (upd H0 l (.lst (nums ms))) H := e0.set hl
      have hl0 : upd H0 l (.lst (nums ms)) l = some (.lst (nums ms)) := upd_same
      clear hD e0 h0l hl
      revert e1 hl0
      generalize upd H0 l (.lst (nums ms)) = H0
      intro e0 hl
      -- row = []
      refine ⟨Nat.zero_le _, fun b hb => ?_⟩
      -- for number in numbers: row = row + gap_bytes(number)
      refine ⟨_, rfl, l, rfl, ⟨_, SqL.of (e0.lay _ hb _ _ hl)⟩, for_list (K := K) (a := l) (xs := nums ms) (fun i σ H' => ∃ (b : Addr) (v6 : Option V), σ = [some (.ref a), some (.ref d), some (.ref l), v3, v4, some (.ref b), v6, none, none, none, none, none] ∧ H' b = some (.lst (nums ((ms.take i).flatMap gapB))) ∧ Ex H0 H' ∧ H0 b = none)
        ⟨b, none, rfl, upd_same, e0.lay _ hb, e0.free hb⟩ (fun i σ H' _ ⟨_, _, _, _, e, _⟩ => SqL.of (e _ _ hl)) ?_ ?_⟩
      · rintro i x σ H hi ⟨b, v6, rfl, hb, e0, h0b⟩
        obtain ⟨n, hn, rfl⟩ := nums_inv hi
        have hn2 := hms n (List.mem_of_getElem? hn)
        refine ⟨_, rfl, _, rfl, n, H0, rfl, hn2, e0, fun p H1 g1 hp hp1 => ?_⟩
        have hb1 := g1.keep _ _ hb (fun z => z)
        have sz : ((ms.take i).flatMap gapB).length ≤ 48 := by
          have := flat_len (ms.take i) fun m hm => hms m (List.mem_of_mem_take hm)
          have := List.length_take_le' i ms
          omega
        have := gapB_len hn2
        refine ⟨b, p, _, _, rfl, rfl, hb1, hp1, mem_sz (by rw [nums_len, nums_len]; omega), fun c hc => ?_⟩
        refine ⟨c, _, rfl, ?_, g1.inn.lay _ hc, g1.inn.free hc⟩
        rw [upd_same, ← nums_app]
        have ht : ms.take (i + 1) = ms.take i ++ [n] := by rw [List.take_add_one, hn]; rfl
        rw [ht, List.flatMap_append]
        simp
      · rintro σ H ⟨b, v6, rfl, hb, e0, h0b⟩
        rw [nums_len, List.take_length] at hb
        have e1 : Ex (upd H0 b (.lst (nums (ms.flatMap gapB)))) H := e0.set hb
        have hb0 : upd H0 b (.lst (nums (ms.flatMap gapB))) b = some (.lst (nums (ms.flatMap gapB))) := upd_same
        have hl0 : upd H0 b (.lst (nums (ms.flatMap gapB))) l = some (.lst (nums ms)) := by rw [upd_ne (ne_of_none hl h0b)]; exact hl
        clear e0 h0b hb hl
        revert e1 hb0 hl0
        generalize upd H0 b (.lst (nums (ms.flatMap gapB))) = H0
        intro e0 hb hl
        -- at = 0; for number in numbers
        refine ⟨_, rfl, l, rfl, ⟨_, SqL.of (e0 _ _ hl)⟩, for_list (K := K) (a := l) (xs := nums ms) (fun i σ H' => ∃ (v3 v6 v8 v9 v10 : Option V), σ = [some (.ref a), some (.ref d), some (.ref l), v3, v4, some (.ref b), v6, some (.int (((ms.take i).flatMap gapB).length : Nat)), v8, v9, v10, none] ∧ Ex H0 H')
          ⟨_, _, _, _, _, rfl, e0⟩ (fun i σ H' _ ⟨_, _, _, _, _, _, e⟩ => SqL.of (e _ _ hl)) ?_ ?_⟩
        · rintro i x σ H hi ⟨v3, v6, v8, v9, v10, rfl, e0⟩
          obtain ⟨n, hn, rfl⟩ := nums_inv hi
          have hn2 := hms n (List.mem_of_getElem? hn)
          have ht : ms.take (i + 1) = ms.take i ++ [n] := by rw [List.take_add_one, hn]; rfl
          have hsp : ms.flatMap gapB = (ms.take i).flatMap gapB ++ (gapB n ++ (ms.drop (i + 1)).flatMap gapB) := by
            conv => lhs; rw [← List.take_append_drop (i + 1) ms]
            rw [List.flatMap_append, ht, List.flatMap_append]
            simp
          have hdr : (ms.flatMap gapB).drop ((ms.take i).flatMap gapB).length = gapB n ++ (ms.drop (i + 1)).flatMap gapB := by
            conv => lhs; arg 2; rw [hsp]
            exact List.drop_left
          -- found, place = gap_read(row, at)
          refine ⟨_, rfl, _, rfl, b, _, _, ((ms.take i).flatMap gapB).length, n, H0, rfl, e0, hb, hdr, hn2, fun p H1 g1 hp hp1 => ?_⟩
          refine ⟨p, _, rfl, SqT.of hp1, rfl, _, _, rfl, _, _, rfl, rfl, ?_⟩
          -- total = 0; for k in range(at, place)
          generalize hat : ((ms.take i).flatMap gapB).length = at_
          rw [hat] at hdr
          have gl := gapB_len hn2
          have sz : at_ ≤ 48 := by
            rw [← hat]
            have := flat_len (ms.take i) fun m hm => hms m (List.mem_of_mem_take hm)
            have := List.length_take_le' i ms
            omega
          have erg : (((at_ + (gapB n).length : Nat) : Int) - (at_ : Int)).toNat = (gapB n).length := by omega
          refine ⟨_, rfl, _, rfl, (at_ : Int), ((at_ + (gapB n).length : Nat) : Int), rfl, ⟨by omega, by omega, by omega, by omega⟩, for_range (lo := (at_ : Int)) (n := (((at_ + (gapB n).length : Nat) : Int) - (at_ : Int)).toNat) (fun j σ H' => ∃ v3 : Option V, σ = [some (.ref a), some (.ref d), some (.ref l), v3, v4, some (.ref b), some (.int (n : Int)), some (.int (at_ : Int)), some (.int (n : Int)), some (.int ((at_ + (gapB n).length : Nat) : Int)), some (.int (val ((gapB n).take j) : Nat)), none] ∧ H' = H1)
            ⟨_, rfl, rfl⟩ ?_ ?_⟩
          · rintro j σ H' hj ⟨v3, rfl, rfl⟩
            rw [erg] at hj
            have hg : (gapB n)[j]? = some (gapB n)[j] := List.getElem?_eq_getElem hj
            have hx : (ms.flatMap gapB)[at_ + j]? = some (gapB n)[j] := by
              rw [← List.getElem?_drop, hdr, List.getElem?_append_left hj]
              exact hg
            have et : (gapB n).take (j + 1) = (gapB n).take j ++ [(gapB n)[j]] := by
              rw [List.take_add_one, hg]
              rfl
            have hb256 : (gapB n)[j] < 256 := gapB_all n _ (List.mem_of_getElem? hg)
            refine ⟨_, rfl, _, _, rfl, rfl, .inr ⟨by decide, by decide⟩, _, rfl, _, rfl, b, _, _, _, rfl, rfl, SqL.of (g1.inn _ _ hb), at_of (j := at_ + j) (by omega) (nums_at hx), _, _, rfl, rfl, (by show (0 : Int) < 128; decide), _, _, rfl, rfl, ?_⟩
            refine ⟨some (.int ((at_ : Int) + (j : Int))), ?_, rfl⟩
            have h3 : val ((gapB n).take (j + 1)) = val ((gapB n).take j) * 128 + (gapB n)[j] % 128 := by
              rw [et]
              exact val_snoc _ _
            have e1 : ((val ((gapB n).take j) : Nat) : Int) * 128 + ((gapB n)[j] : Int) % 128 = ((val ((gapB n).take (j + 1)) : Nat) : Int) := by omega
            show [_, _, _, _, _, _, _, _, _, _, some (V.int (((val ((gapB n).take j) : Nat) : Int) * 128 + ((gapB n)[j] : Int) % 128)), _] = _
            rw [e1]
          · rintro σ H' ⟨v3, rfl, rfl⟩
            rw [erg, List.take_length, val_gapB]
            -- if found != number or total != number
            refine ⟨_, rfl, _, rfl, rfl, _, rfl, ifF (by rw [decide_eq_true rfl]; rfl) ?_⟩
            refine ⟨_, rfl, _, rfl, rfl, _, rfl, ifF (by rw [decide_eq_true rfl]; rfl) ?_⟩
            refine ⟨_, rfl, v3, some (.int (n : Int)), some (.int (n : Int)), some (.int ((at_ + (gapB n).length : Nat) : Int)), some (.int (n : Int)), ?_, g1.inn⟩
            have el : ((ms.take (i + 1)).flatMap gapB).length = at_ + (gapB n).length := by
              rw [ht, List.flatMap_append, List.length_append, hat]
              simp
            rw [el]
            rfl
        · rintro σ H ⟨v3, v6, v8, v9, v10, rfl, e0⟩
          rw [nums_len, List.take_length]
          -- rows = [gap_bytes(number) for number in sorted(numbers)]
          refine ⟨_, rfl, l, _, rfl, SqL.of (by rw [← nums_eq]; exact e0 _ _ hl), fun ss S perm rising hS => ?_⟩
          have hss : ∀ x ∈ ss, 0 ≤ x ∧ x < 268435456 := fun x hx => by
            have h1 := perm.mem_iff.mp hx
            obtain ⟨n, hn, rfl⟩ := List.mem_map.mp h1
            have := hms n hn
            omega
          have hsl : ss.length ≤ 12 := by
            have := perm.length_eq
            rw [List.length_map] at this
            omega
          have e1 := (e0.lay (.lst (ss.map V.int)) hS).set (upd_same (a := S) (H := H) (o := .lst (ss.map V.int)))
          have hb1 : upd H0 S (.lst (ss.map V.int)) b = some (.lst (nums (ms.flatMap gapB))) := by rw [upd_ne (ne_of_none hb (e0.free hS))]; exact hb
          have hS1 : upd H0 S (.lst (ss.map V.int)) S = some (.lst (ss.map V.int)) := upd_same
          clear hl
          revert e1 hb1 hS1
          generalize upd H0 S (.lst (ss.map V.int)) = H0
          generalize upd H S (.lst (ss.map V.int)) = H
          intro e0 hb hS
          refine ⟨S, rfl, ⟨_, SqL.of (e0 _ _ hS)⟩, fun D hD => lc_list (K := K) (a := S) (xs := ss.map V.int) (fun i H' => ∃ (ps : List Addr) (F0 : Hp), H' D = some (.lst (ps.map V.ref)) ∧ ps.length = i ∧ Ex H0 F0 ∧ Ex F0 H' ∧ F0 D = none ∧ ∀ (j : Nat) (p : Addr), ps[j]? = some p → ∃ z : Int, ss[j]? = some z ∧ F0 p = some (.lst (nums (gapB z.toNat))))
            ⟨[], H0, upd_same, rfl, Ex.refl _, e0.lay _ hD, e0.free hD, fun j p h => by simp at h⟩ (fun i H' _ ⟨ps, F0, _, _, x1, x2, _⟩ => SqL.of (x2 _ _ (x1 _ _ hS))) (fun i x H' hi p => ?_) (fun H1 p => ?_)⟩
          · obtain ⟨ps, F0, hp, hl, x1, x2, x3, x4⟩ := p
            obtain ⟨z, hz, rfl⟩ := map_int_inv hi
            obtain ⟨z0, z1⟩ := hss z (List.mem_of_getElem? hz)
            have hlt := (List.getElem?_eq_some_iff.mp hz).1
            refine ⟨rfl, ?_⟩
            refine ⟨_, rfl, z.toNat, F0, by rw [Int.toNat_of_nonneg z0]; rfl, by omega, x2, fun p H2 g2 hp2 hp3 => ?_⟩
            have hD2 := g2.keep _ _ hp (fun z => z)
            have nDp : D ≠ p := ne_of_none hp hp2
            refine ⟨_, hD2, mem_lt (by rw [List.length_map]; omega), ps ++ [p], upd F0 p (.lst (nums (gapB z.toNat))), ?_, by rw [List.length_append, hl]; rfl, x1.trans (Ex.new (x2.free hp2)), (g2.inn.set hp3).turn _ (by rw [upd_ne nDp]; exact x3), by rw [upd_ne nDp]; exact x3, fun j p' h => ?_⟩
            · rw [upd_same, List.map_append]
              rfl
            · by_cases hj : j < ps.length
              · rw [List.getElem?_append_left hj] at h
                obtain ⟨z', h1, h2⟩ := x4 j p' h
                exact ⟨z', h1, by rw [upd_ne (ne_of_none h2 (x2.free hp2))]; exact h2⟩
              · rw [List.getElem?_append_right (by omega)] at h
                have hj2 : j = ps.length := by
                  have := (List.getElem?_eq_some_iff.mp h).1
                  simp at this
                  omega
                subst hj2
                rw [Nat.sub_self] at h
                have e : p = p' := Option.some.inj h
                subst e
                exact ⟨z, by rw [hl]; exact hz, upd_same⟩
          · obtain ⟨ps, F0, hp, hl, x1, x2, x3, x4⟩ := p
            rw [List.length_map] at hl
            -- if any([len(rows[k - 1]) > len(rows[k]) for k in range(1, len(rows))])
            refine ⟨_, rfl, D, _, rfl, .inl (SqL.of hp), ?_⟩
            refine ⟨1, _, rfl, ⟨by decide, by decide, by omega, by rw [List.length_map]; omega⟩, fun D2 hD2 => lc_range (lo := 1) (n := (((ps.map V.ref).length : Int) - 1).toNat) (fun i H' => H' D2 = some (.lst (List.replicate i (.bl false))) ∧ Ex H1 H') ⟨upd_same, Ex.new hD2⟩ (fun i H' hi p => ?_) (fun H2 p2 => ?_)⟩
            · obtain ⟨p1, p2⟩ := p
              rw [List.length_map] at hi
              obtain ⟨u, hu⟩ : ∃ u, ps[i]? = some u := ⟨_, List.getElem?_eq_getElem (by omega)⟩
              obtain ⟨v, hv⟩ : ∃ v, ps[i + 1]? = some v := ⟨_, List.getElem?_eq_getElem (by omega)⟩
              obtain ⟨zu, hzu, hpu⟩ := x4 i u hu
              obtain ⟨zv, hzv, hpv⟩ := x4 (i + 1) v hv
              have hle : zu ≤ zv := by
                obtain ⟨h1, h1'⟩ := List.getElem?_eq_some_iff.mp hzu
                obtain ⟨h2, h2'⟩ := List.getElem?_eq_some_iff.mp hzv
                have := (List.pairwise_iff_getElem.mp rising) i (i + 1) h1 h2 (by omega)
                rw [h1', h2'] at this
                exact this
              have hmo := gapB_mono (show zu.toNat ≤ zv.toNat by omega)
              have hDp := p2 _ _ hp
              refine ⟨rfl, ?_⟩
              refine ⟨_, rfl, _, rfl, _, _, rfl, rfl, D, _, _, _, rfl, rfl, SqL.of hDp, at_of (j := i) (by omega) (map_ref hu), u, _, rfl, .inl (SqL.of (p2 _ _ (x2 _ _ hpu))), ?_⟩
              refine ⟨_, rfl, _, rfl, D, _, _, _, rfl, rfl, SqL.of hDp, at_of (j := i + 1) (by omega) (map_ref hv), v, _, rfl, .inl (SqL.of (p2 _ _ (x2 _ _ hpv))), _, _, rfl, rfl, ?_⟩
              refine ⟨_, p1, mem_lt (by rw [List.length_replicate]; omega), ?_, p2.turn _ hD2⟩
              have ed : decide (((nums (gapB zv.toNat)).length : Int) < ((nums (gapB zu.toNat)).length : Int)) = false := decide_eq_false (by rw [nums_len, nums_len]; omega)
              rw [upd_same, List.replicate_succ']
              show some (HO.lst (_ ++ [V.bl (decide (((nums (gapB zv.toNat)).length : Int) < ((nums (gapB zu.toNat)).length : Int)))])) = _
              rw [ed]
            · obtain ⟨p1, p2⟩ := p2
              have pn : H2 D2 = some (.lst ((List.replicate (((ps.map V.ref).length : Int) - 1).toNat false).map V.bl)) := by rw [p1, List.map_replicate]
              refine ⟨D2, _, rfl, SqL.of pn, _, rfl, ifF (any_rep _) ?_⟩
              -- at == len(row) and numbers(row)
              have hb2 := p2 _ _ (x2 _ _ (x1 _ _ hb))
              refine ⟨_, rfl, _, rfl, b, _, rfl, .inl (SqL.of hb2), rfl, _, rfl, ifT (by rw [nums_len]; exact decide_eq_true rfl) ?_⟩
              have sz : (ms.flatMap gapB).length ≤ 48 := by
                have := flat_len ms hms
                omega
              exact ⟨_, rfl, b, _, F0, rfl, x2.trans p2, x1 _ _ hb, by omega, fun H' _ => q H'⟩
end
end Rt

namespace Rt
open PySem PySem.Spec PyProof.Rows L2
section
variable {P : Program} {w : World} {K : PySem.W.Frag} {mg : Str → Option Value} {base : Heap}
end
theorem all_mk {l : PySem.W.OpenLaw} {w : World} {K : PySem.W.Frag} {h : Heap} {mg : Str → Option Value} {fa : Addr} (X : K.In h) (G : h.Ns mainGlobals mg) (hfa : mg "law" = some (.ref fa))
    {f1 : Addr} {od1 an1 : Option Addr} {sl1 : Array (Option Value)} {oc1 kV1 dc1 pm1 cd1 ct1 : Value}
    (a1 : PySem.W.nsIn K mainGlobals "_law_begin" = some (some (.ref f1)))
    (l1 : K.lookup f1 = some ⟨oc1, od1, .func (PySem.W.fnOf "_law_begin" "_law_begin" (defArgs s_begin) (defBody s_begin) (defScope s_begin) .none kV1 dc1 pm1 an1 cd1 ct1), sl1⟩)
    (c1 : PySem.W.codeIn K cd1 "_law_begin" = true) (k1 : PySem.W.keepIn K (.ref f1) = true)
    {f2 : Addr} {od2 an2 : Option Addr} {sl2 : Array (Option Value)} {oc2 kV2 dc2 pm2 cd2 ct2 : Value}
    (a2 : PySem.W.nsIn K mainGlobals "_law_pick" = some (some (.ref f2)))
    (l2 : K.lookup f2 = some ⟨oc2, od2, .func (PySem.W.fnOf "_law_pick" "_law_pick" (defArgs s_pick) (defBody s_pick) (defScope s_pick) .none kV2 dc2 pm2 an2 cd2 ct2), sl2⟩)
    (c2 : PySem.W.codeIn K cd2 "_law_pick" = true) (k2 : PySem.W.keepIn K (.ref f2) = true)
    {f3 : Addr} {od3 an3 : Option Addr} {sl3 : Array (Option Value)} {oc3 kV3 dc3 pm3 cd3 ct3 : Value}
    (a3 : PySem.W.nsIn K mainGlobals "_law_one" = some (some (.ref f3)))
    (l3 : K.lookup f3 = some ⟨oc3, od3, .func (PySem.W.fnOf "_law_one" "_law_one" (defArgs s_one) (defBody s_one) (defScope s_one) .none kV3 dc3 pm3 an3 cd3 ct3), sl3⟩)
    (c3 : PySem.W.codeIn K cd3 "_law_one" = true) (k3 : PySem.W.keepIn K (.ref f3) = true)
    {f4 : Addr} {od4 an4 : Option Addr} {sl4 : Array (Option Value)} {oc4 kV4 dc4 pm4 cd4 ct4 : Value}
    (a4 : PySem.W.nsIn K mainGlobals "gap_bytes" = some (some (.ref f4)))
    (l4 : K.lookup f4 = some ⟨oc4, od4, .func (PySem.W.fnOf "gap_bytes" "gap_bytes" (defArgs s_gap_bytes) (defBody s_gap_bytes) (defScope s_gap_bytes) .none kV4 dc4 pm4 an4 cd4 ct4), sl4⟩)
    (c4 : PySem.W.codeIn K cd4 "gap_bytes" = true) (k4 : PySem.W.keepIn K (.ref f4) = true)
    {f5 : Addr} {od5 an5 : Option Addr} {sl5 : Array (Option Value)} {oc5 kV5 dc5 pm5 cd5 ct5 : Value}
    {T5 : Addr} {oT5 : Value} {dT5 : Option Addr} {nT5 : Nat} {sT5 : Array (Option Value)} {tk5_0 : Tok}
    (a5 : PySem.W.nsIn K mainGlobals "gap_read" = some (some (.ref f5)))
    (l5 : K.lookup f5 = some ⟨oc5, od5, .func (PySem.W.fnOf "gap_read" "gap_read" (defArgs s_gap_read) (defBody s_gap_read) (defScope s_gap_read) (.ref T5) kV5 dc5 pm5 an5 cd5 ct5), sl5⟩)
    (c5 : PySem.W.codeIn K cd5 "gap_read" = true) (k5 : PySem.W.keepIn K (.ref f5) = true)
    (t5 : K.lookup T5 = some ⟨oT5, dT5, .seq #[.int 0 tk5_0] nT5, sT5⟩)
    {f6 : Addr} {od6 an6 : Option Addr} {sl6 : Array (Option Value)} {oc6 kV6 dc6 pm6 cd6 ct6 : Value}
    (a6 : PySem.W.nsIn K mainGlobals "_law_numbers" = some (some (.ref f6)))
    (l6 : K.lookup f6 = some ⟨oc6, od6, .func (PySem.W.fnOf "_law_numbers" "_law_numbers" (defArgs s_numbers) (defBody s_numbers) (defScope s_numbers) .none kV6 dc6 pm6 an6 cd6 ct6), sl6⟩)
    (c6 : PySem.W.codeIn K cd6 "_law_numbers" = true) (k6 : PySem.W.keepIn K (.ref f6) = true)
    {f7 : Addr} {od7 an7 : Option Addr} {sl7 : Array (Option Value)} {oc7 kV7 dc7 pm7 cd7 ct7 : Value}
    (a7 : PySem.W.nsIn K mainGlobals "law" = some (some (.ref f7)))
    (l7 : K.lookup f7 = some ⟨oc7, od7, .func (PySem.W.fnOf "law" "law" (defArgs s_law_k03) (defBody s_law_k03) (defScope s_law_k03) .none kV7 dc7 pm7 an7 cd7 ct7), sl7⟩)
    (c7 : PySem.W.codeIn K cd7 "law" = true) (k7 : PySem.W.keepIn K (.ref f7) = true)
    (z_list : PySem.W.nsIn K mainGlobals "list" = some none)
    (z_len : PySem.W.nsIn K mainGlobals "len" = some none)
    (z_isinstance : PySem.W.nsIn K mainGlobals "isinstance" = some none)
    (z_bool : PySem.W.nsIn K mainGlobals "bool" = some none)
    (z_int : PySem.W.nsIn K mainGlobals "int" = some none)
    (z_any : PySem.W.nsIn K mainGlobals "any" = some none)
    (z_all : PySem.W.nsIn K mainGlobals "all" = some none)
    (z_range : PySem.W.nsIn K mainGlobals "range" = some none)
    (z_sorted : PySem.W.nsIn K mainGlobals "sorted" = some none)
    {q1 : Tok}
    (g_MOST_GAP : PySem.W.nsIn K mainGlobals "MOST_GAP" = some (some (.int 268435455 q1)))
    {q2 : Tok}
    (g_MOST_SIZE : PySem.W.nsIn K mainGlobals "MOST_SIZE" = some (some (.int 4 q2)))
    {q3 : Tok}
    (g_BASE : PySem.W.nsIn K mainGlobals "BASE" = some (some (.int 128 q3)))
    : ∃ fd : FuncData, (∀ (s : Shared) (v : Value), BindsTo s fd ⟨[v], []⟩ [("_law_script", v)]) ∧ ∀ base : Heap, K.In base → base.Ns mainGlobals mg → FnOk l.prog w K mg base CX0 4 fa fd ["_law_script"] (spLaw K) := by
  have e := hfa.symm.trans (PySem.W.mg_of X G a7)
  cases e
  have m_list := PySem.W.mg_none_of X G z_list
  have m_len := PySem.W.mg_none_of X G z_len
  have m_isinstance := PySem.W.mg_none_of X G z_isinstance
  have m_bool := PySem.W.mg_none_of X G z_bool
  have m_int := PySem.W.mg_none_of X G z_int
  have m_any := PySem.W.mg_none_of X G z_any
  have m_all := PySem.W.mg_none_of X G z_all
  have m_range := PySem.W.mg_none_of X G z_range
  have m_sorted := PySem.W.mg_none_of X G z_sorted
  have c_MOST_GAP : ∃ u, mg "MOST_GAP" = some u ∧ L2.RelV (.int 268435455) u := ⟨_, PySem.W.mg_of X G g_MOST_GAP, ⟨_, rfl⟩⟩
  have c_MOST_SIZE : ∃ u, mg "MOST_SIZE" = some u ∧ L2.RelV (.int 4) u := ⟨_, PySem.W.mg_of X G g_MOST_SIZE, ⟨_, rfl⟩⟩
  have c_BASE : ∃ u, mg "BASE" = some u ∧ L2.RelV (.int 128) u := ⟨_, PySem.W.mg_of X G g_BASE, ⟨_, rfl⟩⟩
  have F1 := fun_mk (st := s_begin) l1 c1 k1
  have F2 := fun_mk (st := s_pick) l2 c2 k2
  have F3 := fun_mk (st := s_one) l3 c3 k3
  have F4 := fun_mk (st := s_gap_bytes) l4 c4 k4
  have F5 : FunD K "gap_read" "gap_read" (defArgs s_gap_read) (defBody s_gap_read) (defScope s_gap_read) [.int 0] [] f5 _ := ⟨⟨_, _, _, _, _, _, _, _, _, _, rfl, l5, c5, .inr ⟨by simp, _, _, _, _, rfl, t5, rfl, (.cons ⟨_, rfl⟩ .nil)⟩, .inl rfl⟩, k5⟩
  have F6 := fun_mk (st := s_numbers) l6 c6 k6
  have F7 := fun_mk (st := s_law_k03) l7 c7 k7
  refine ⟨PySem.W.fnOf "law" "law" (defArgs s_law_k03) (defBody s_law_k03) (defScope s_law_k03) .none kV7 dc7 pm7 an7 cd7 ct7, fun s v => .of_eq rfl, fun base Kb Gb => ?_⟩
  have D__law_begin : Def l.prog w K mg base "_law_begin" 1 (spBegin K) := ⟨_, _, _, _, PySem.W.mg_of X G a1, ok_begin (P := l.prog) (w := w) (base := base) F1 m_list, k1, (F1.binds (ps := ["_law_script"]) fun _ _ _ _ _ _ us hl => match us, hl with | [_], _ => rfl), .nil⟩
  have D__law_pick : Def l.prog w K mg base "_law_pick" 1 spPick := ⟨_, _, _, _, PySem.W.mg_of X G a2, ok_pick (P := l.prog) (w := w) (base := base) F2 m_len, k2, (F2.binds (ps := ["_law_draw", "_law_many"]) fun _ _ _ _ _ _ us hl => match us, hl with | [_, _], _ => rfl), .nil⟩
  have D__law_one : Def l.prog w K mg base "_law_one" 2 spOne := ⟨_, _, _, _, PySem.W.mg_of X G a3, ok_one (P := l.prog) (w := w) (base := base) F3 D__law_pick m_len, k3, (F3.binds (ps := ["_law_draw", "_law_some"]) fun _ _ _ _ _ _ us hl => match us, hl with | [_, _], _ => rfl), .nil⟩
  have D_gap_bytes : Def l.prog w K mg base "gap_bytes" 1 spGapBytes := ⟨_, _, _, _, PySem.W.mg_of X G a4, ok_gap_bytes (P := l.prog) (w := w) (base := base) F4 c_MOST_GAP c_BASE, k4, (F4.binds (ps := ["number"]) fun _ _ _ _ _ _ us hl => match us, hl with | [_], _ => rfl), .nil⟩
  have B5 := F5.binds1 (ps := ["row", "at"]) 2 1 (by simp) rfl fun _ _ _ _ _ _ _ us its h1 h2 => match us, its, h1, h2 with | [_, _], [_], _, _ => ⟨_, rfl, rfl⟩
  obtain ⟨ds5, vd5, bd5⟩ := B5
  have D_gap_read : Def l.prog w K mg base "gap_read" 1 spGapRead := ⟨_, _, _, _, PySem.W.mg_of X G a5, ok_gap_read (P := l.prog) (w := w) (base := base) F5 m_len c_MOST_SIZE c_BASE, k5, bd5, vd5⟩
  have D__law_numbers : Def l.prog w K mg base "_law_numbers" 1 spNumbers := ⟨_, _, _, _, PySem.W.mg_of X G a6, ok_numbers (P := l.prog) (w := w) (base := base) F6 m_isinstance m_list m_bool m_int m_any m_all, k6, (F6.binds (ps := ["_law_row"]) fun _ _ _ _ _ _ us hl => match us, hl with | [_], _ => rfl), .nil⟩
  exact ok_law (P := l.prog) (w := w) (base := base) F7 D__law_begin D__law_pick D__law_one D_gap_bytes D_gap_read D__law_numbers m_range m_len m_sorted m_any
end Rt
open PySem PySem.W PyProof.Rows
set_option maxRecDepth 100000 in
set_option maxHeartbeats 0 in
theorem PySem.Challenge.cw_reedtapes_k03_whole_gaps_there_and_back_holds : PySem.Challenge.rw_reedtapes_k03_whole_gaps_there_and_back.Holds := by
  w_on; o_law; k_head; (case hw => w_witness2)
  k_fill
  refine L2.walk_of (l := PySem.Challenge.rw_reedtapes_k03_whole_gaps_there_and_back) (n := 63) (k := 4) (x := "_law_script") (CX := fun _ => L2.CX0) (sp := fun w => Rt.spLaw _) rfl (by decide) rfl ⟨rfl, by decide, by decide⟩ (fun w h Y => PySem.W.kIn_of Y) ?F (fun _ _ a ns hl _ hS => ⟨a, ns, rfl, hS, fun _ => rfl⟩) (fun _ _ _ _ _ h => h)
  case F =>
    intro w mg fa h KX G hmg
    refine' Rt.all_mk KX G hmg ?a1 ?l1 ?c1 ?k1 ?a2 ?l2 ?c2 ?k2 ?a3 ?l3 ?c3 ?k3 ?a4 ?l4 ?c4 ?k4 ?a5 ?l5 ?c5 ?k5 ?t5 ?a6 ?l6 ?c6 ?k6 ?a7 ?l7 ?c7 ?k7 ?z_list ?z_len ?z_isinstance ?z_bool ?z_int ?z_any ?z_all ?z_range ?z_sorted ?g_MOST_GAP ?g_MOST_SIZE ?g_BASE
    (case a1 => k_is)
    (case l1 => k_is)
    (case c1 => k_is)
    (case k1 => k_is)
    (case a2 => k_is)
    (case l2 => k_is)
    (case c2 => k_is)
    (case k2 => k_is)
    (case a3 => k_is)
    (case l3 => k_is)
    (case c3 => k_is)
    (case k3 => k_is)
    (case a4 => k_is)
    (case l4 => k_is)
    (case c4 => k_is)
    (case k4 => k_is)
    (case a5 => k_is)
    (case l5 => k_is)
    (case c5 => k_is)
    (case k5 => k_is)
    (case t5 => k_is)
    (case a6 => k_is)
    (case l6 => k_is)
    (case c6 => k_is)
    (case k6 => k_is)
    (case a7 => k_is)
    (case l7 => k_is)
    (case c7 => k_is)
    (case k7 => k_is)
    (case z_list => k_is)
    (case z_len => k_is)
    (case z_isinstance => k_is)
    (case z_bool => k_is)
    (case z_int => k_is)
    (case z_any => k_is)
    (case z_all => k_is)
    (case z_range => k_is)
    (case z_sorted => k_is)
    (case g_MOST_GAP => k_is)
    (case g_MOST_SIZE => k_is)
    (case g_BASE => k_is)

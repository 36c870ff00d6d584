import PyProof.Rows.All
import Wide.All
import OpenK.AllK
import Wide.FinOn
import HandS.ForMost
import HandS.ForExc
import HandS.IsInst
import HandS.FStr
import HandS.TryMany
import HandS.ExcInit
import HandS.ExcField
import HandS.ExcIs
import HandS.Codes
import HandS.Defaults
import HandS.SortInts
import KE.KTypeName
import HandS.CallSlots
import HandS.Lambda
import HandS.EndTab
import KE.KNestM
import HandS.EndOwn
import KE.KEqSeq
import PySem.Challenge.RW_reedtapes_k02_gaps_read_or_refused
set_option Elab.async false
set_option linter.all false
set_option maxRecDepth 100000
set_option maxHeartbeats 4000000
namespace Rt
open PySem PySem.Spec PyProof.Rows L2
/-! ### heaps: what was known stays known -/
def Ex (H H' : Hp) : Prop := ∀ b o, H b = some o → H' b = some o
theorem Ex.refl (H : Hp) : Ex H H := fun _ _ h => h
theorem Ex.trans {H H1 H2 : Hp} (a : Ex H H1) (b : Ex H1 H2) : Ex H H2 := fun c o h => b c o (a c o h)
theorem Ex.to {H H' : Hp} {b : Addr} {o : HO} (e : Ex H H') (h : H b = some o) : H' b = some o := e b o h
theorem Ex.seq {K : PySem.W.Frag} {H H' : Hp} {a : Addr} {xs : List V} (e : Ex H H') (h : SqL K H a xs) : SqL K H' a xs := by
  rcases h with (h | ⟨o, h⟩) | h
  · exact .inl (.inl (e _ _ h))
  · exact .inl (.inr ⟨o, e _ _ h⟩)
  · exact .inr h
theorem Ex.new {H : Hp} {p : Addr} {o : HO} (h : H p = none) : Ex H (upd H p o) := fun a u e => by
  rw [upd_ne (ne_of_none e h)]
  exact e
theorem Ex.free {H H' : Hp} {p : Addr} (e : Ex H H') (h : H' p = none) : H p = none := by
  cases q : H p with
  | none => rfl
  | some o =>
    rw [e p o q] at h
    cases h
/-- a step of the heap: H0 what is settled, H all; m: what may be turned -/
structure Go (m : Addr → Prop) (E0 E H0 H : Hp) : Prop where
  up : Ex E0 H0
  inn : Ex H0 H
  new : ∀ b, E b ≠ none → E0 b = none → H0 b = none
  keep : ∀ b o, E b = some o → ¬ m b → H b = some o
  there : ∀ b, E b ≠ none → H b ≠ none
theorem Go.refl {m : Addr → Prop} {H0 H : Hp} (e : Ex H0 H) : Go m H0 H H0 H := ⟨Ex.refl _, e, fun _ _ h => h, fun _ _ h _ => h, fun _ h => h⟩
theorem Go.trans {m m' : Addr → Prop} {E0 E F0 F G0 G : Hp} (a : Go m E0 E F0 F) (b : Go m' F0 F G0 G) (hm : ∀ x, E x ≠ none → m' x → m x) : Go m E0 E G0 G where
  up := a.up.trans b.up
  inn := b.inn
  new := fun x h1 h2 => b.new x (a.there x h1) (a.new x h1 h2)
  keep := fun x o h n => b.keep x o (a.keep x o h n) fun z => n (hm x (by rw [h]; simp) z)
  there := fun x h => b.there x (a.there x h)
/-- the same, what may be turned being alike -/
theorem Go.then {m : Addr → Prop} {E0 E F0 F G0 G : Hp} (a : Go m E0 E F0 F) (b : Go m F0 F G0 G) : Go m E0 E G0 G := a.trans b fun _ _ h => h
/-- a new object, not settled -/
theorem Go.lay {m : Addr → Prop} {E0 E H0 H : Hp} {p : Addr} (o : HO) (a : Go m E0 E H0 H) (h : H p = none) : Go m E0 E H0 (upd H p o) where
  up := a.up
  inn := a.inn.trans (Ex.new h)
  new := a.new
  keep := fun x u q n => by
    rw [upd_ne (ne_of_none (a.keep x u q n) h)]
    exact a.keep x u q n
  there := fun x q => by
    by_cases e : x = p
    · rw [e, upd_same]; simp
    · rw [upd_ne e]; exact a.there x q
/-- a new object that is not known at the entry is turned -/
theorem Go.turn {m : Addr → Prop} {E0 E H0 H : Hp} {p : Addr} (o : HO) (a : Go m E0 E H0 H) (h : E p = none) (h0 : H0 p = none) : Go m E0 E H0 (upd H p o) where
  up := a.up
  inn := fun x u q => by
    rw [upd_ne (ne_of_none q h0)]
    exact a.inn x u q
  new := a.new
  keep := fun x u q n => by
    rw [upd_ne (ne_of_none q h)]
    exact a.keep x u q n
  there := fun x q => by
    by_cases e : x = p
    · rw [e, upd_same]; simp
    · rw [upd_ne e]; exact a.there x q
/-- what may be turned is turned -/
theorem Go.turnM {m : Addr → Prop} {E0 E H0 H : Hp} {p : Addr} (o : HO) (a : Go m E0 E H0 H) (h : m p) (h0 : H0 p = none) : Go m E0 E H0 (upd H p o) where
  up := a.up
  inn := fun x u q => by
    rw [upd_ne (ne_of_none q h0)]
    exact a.inn x u q
  new := a.new
  keep := fun x u q n => by
    have e : x ≠ p := fun z => n (z ▸ h)
    rw [upd_ne e]
    exact a.keep x u q n
  there := fun x q => by
    by_cases e : x = p
    · rw [e, upd_same]; simp
    · rw [upd_ne e]; exact a.there x q
/-- it is settled -/
theorem Go.set {m : Addr → Prop} {E0 E H0 H : Hp} {p : Addr} {o : HO} (a : Go m E0 E H0 H) (h : E p = none) (hp : H p = some o) (h0 : H0 p = none) : Go m E0 E (upd H0 p o) H where
  up := a.up.trans (Ex.new h0)
  inn := fun x u q => by
    by_cases e : x = p
    · rw [e, upd_same] at q
      rw [e, hp, q]
    · rw [upd_ne e] at q
      exact a.inn x u q
  new := fun x q r => by
    have e : x ≠ p := fun z => q (z ▸ h)
    rw [upd_ne e]
    exact a.new x q r
  keep := a.keep
  there := a.there
/-- a new object that is settled at once -/
theorem Go.put {m : Addr → Prop} {E0 E H0 H : Hp} {p : Addr} (o : HO) (a : Go m E0 E H0 H) (h : H p = none) : Go m E0 E (upd H0 p o) (upd H p o) := by
  have hE : E p = none := by
    cases q : E p with
    | none => rfl
    | some u => exact absurd h (a.there p (by rw [q]; simp))
  exact (a.lay o h).set hE upd_same (a.inn.free h)
theorem Go.mono {m m' : Addr → Prop} {E0 E H0 H : Hp} (a : Go m E0 E H0 H) (h : ∀ x, m x → m' x) : Go m' E0 E H0 H := ⟨a.up, a.inn, a.new, fun b o q n => a.keep b o q fun z => n (h b z), a.there⟩
/-- fresh now: fresh at the entry, and unsettled -/
theorem Go.fresh {m : Addr → Prop} {E0 E H0 H : Hp} {p : Addr} (a : Go m E0 E H0 H) (h : H p = none) : E p = none := by
  cases q : E p with
  | none => rfl
  | some u => exact absurd h (a.there p (by rw [q]; simp))
theorem Go.fresh0 {m : Addr → Prop} {E0 E H0 H : Hp} {p : Addr} (a : Go m E0 E H0 H) (h : H p = none) : H0 p = none := a.inn.free h
/-! ### the drawing's list -/
structure Dr (H0 H : Hp) (d : Addr) : Prop where
  ex : ∃ (a : Addr) (ns : List Int) (i j k l : Int), H d = some (.lst [.ref a, .int i, .int j, .int k, .int l]) ∧ H0 a = some (.lst (ns.map V.int)) ∧ 0 ≤ i ∧ 0 ≤ j ∧ 0 ≤ k ∧ k < 2000000000
  out : H0 d = none
theorem Dr.mono {H0 H H0' : Hp} {d : Addr} (x : Dr H0 H d) (e : Ex H0 H0') (n : H0' d = none) : Dr H0' H d := by
  obtain ⟨⟨a, ns, i, j, k, l, h1, h2, h3⟩, _⟩ := x
  exact ⟨⟨a, ns, i, j, k, l, h1, e _ _ h2, h3⟩, n⟩
theorem Dr.known {H0 H : Hp} {d : Addr} (x : Dr H0 H d) : H d ≠ none := by
  obtain ⟨⟨a, ns, i, j, k, l, h1, _⟩, _⟩ := x
  rw [h1]; simp
/-- a pure step leaves the drawing -/
theorem Dr.go {m : Addr → Prop} {H0 H H0' H' : Hp} {d : Addr} (x : Dr H0 H d) (g : Go m H0 H H0' H') (n : ¬ m d) : Dr H0' H' d := by
  have k := x.known
  obtain ⟨⟨a, ns, i, j, k', l, h1, h2, h3⟩, o⟩ := x
  exact ⟨⟨a, ns, i, j, k', l, g.keep _ _ h1 n, g.up _ _ h2, h3⟩, g.new d k o⟩
theorem Dr.lay {H0 H : Hp} {d p : Addr} (o : HO) (x : Dr H0 H d) (h : H p = none) : Dr H0 (upd H p o) d := by
  have k := x.known
  obtain ⟨⟨a, ns, i, j, k', l, h1, h2⟩, n⟩ := x
  exact ⟨⟨a, ns, i, j, k', l, by rw [upd_ne (ne_of_none h1 h)]; exact h1, h2⟩, n⟩
theorem Dr.turn {H0 H : Hp} {d p : Addr} (o : HO) (x : Dr H0 H d) (h : d ≠ p) : Dr H0 (upd H p o) d := by
  obtain ⟨⟨a, ns, i, j, k', l, h1, h2⟩, n⟩ := x
  exact ⟨⟨a, ns, i, j, k', l, by rw [upd_ne h]; exact h1, h2⟩, n⟩
theorem Dr.set {H0 H : Hp} {d p : Addr} (o : HO) (x : Dr H0 H d) (h0 : H0 p = none) (h : d ≠ p) : Dr (upd H0 p o) H d := x.mono (Ex.new h0) (by rw [upd_ne h]; exact x.out)
theorem Dr.ne {H0 H : Hp} {d p : Addr} (x : Dr H0 H d) (h : H p = none) : d ≠ p := fun z => x.known (z ▸ h)
theorem Ex.lay {H0 H : Hp} {p : Addr} (o : HO) (e : Ex H0 H) (h : H p = none) : Ex H0 (upd H p o) := e.trans (Ex.new h)
theorem Ex.turn {H0 H : Hp} {p : Addr} (o : HO) (e : Ex H0 H) (h : H0 p = none) : Ex H0 (upd H p o) := fun x u q => by
  rw [upd_ne (ne_of_none q h)]
  exact e x u q
theorem Ex.set {H0 H : Hp} {p : Addr} {o : HO} (e : Ex H0 H) (h : H p = some o) : Ex (upd H0 p o) H := fun x u q => by
  by_cases z : x = p
  · rw [z, upd_same] at q
    rw [z, h, q]
  · rw [upd_ne z] at q
    exact e x u q
/-- where a drawing def stands: A0, A at its entry, H0, H now -/
structure Sd (d : Addr) (A0 A H0 H : Hp) : Prop where
  go : Go (· = d) A0 A H0 H
  dr : Dr H0 H d
theorem Sd.ex {d : Addr} {A0 A H0 H : Hp} (S : Sd d A0 A H0 H) : Ex H0 H := S.go.inn
theorem Sd.here {d : Addr} {H0 H : Hp} (e : Ex H0 H) (x : Dr H0 H d) : Sd d H0 H H0 H := ⟨Go.refl e, x⟩
theorem Sd.call {d : Addr} {A0 A H0 H H0' H' : Hp} (S : Sd d A0 A H0 H) (g : Go (· = d) H0 H H0' H') (x : Dr H0' H' d) : Sd d A0 A H0' H' := ⟨S.go.then g, x⟩
theorem Sd.pure {d : Addr} {A0 A H0 H H0' H' : Hp} (S : Sd d A0 A H0 H) (g : Go (fun _ => False) H0 H H0' H') : Sd d A0 A H0' H' := ⟨S.go.trans g fun _ _ z => z.elim, S.dr.go g fun z => z⟩
theorem Sd.put {d p : Addr} {A0 A H0 H : Hp} (o : HO) (S : Sd d A0 A H0 H) (h : H p = none) : Sd d A0 A (upd H0 p o) (upd H p o) := ⟨S.go.put o h, (S.dr.lay o h).set o (S.ex.free h) (S.dr.ne h)⟩
theorem Sd.lay {d p : Addr} {A0 A H0 H : Hp} (o : HO) (S : Sd d A0 A H0 H) (h : H p = none) : Sd d A0 A H0 (upd H p o) := ⟨S.go.lay o h, S.dr.lay o h⟩
theorem Sd.turn {d p : Addr} {A0 A H0 H : Hp} (o : HO) (S : Sd d A0 A H0 H) (h : A p = none) (h0 : H0 p = none) (n : d ≠ p) : Sd d A0 A H0 (upd H p o) := ⟨S.go.turn o h h0, S.dr.turn o n⟩
theorem Sd.set {d p : Addr} {A0 A H0 H : Hp} {o : HO} (S : Sd d A0 A H0 H) (h : A p = none) (hp : H p = some o) (h0 : H0 p = none) (n : d ≠ p) : Sd d A0 A (upd H0 p o) H := ⟨S.go.set h hp h0, S.dr.set o h0 n⟩
/-! ### a def of the text, called by its name; dvs: the defaults that fill up -/
structure Def (P : Program) (w : World) (K : PySem.W.Frag) (mg : Str → Option Value) (base : Heap) (x : Str) (k : Nat) (sp : Sp) (dvs : List V := []) : Prop where
  ex : ∃ (f : Addr) (fd : FuncData) (ps : List Str) (ds : List Value), mg x = some (.ref f) ∧ FnOk P w K mg base CX0 k f fd ps sp ∧ PySem.W.keepIn K (.ref f) = true ∧ Binds K fd ps ds ∧ Vals dvs ds
section
variable {X : Cx} {x : Str} {p pos : Pos} {e : Expr} {es : List Expr} {t : TA} {k : Nat} {sp : Sp} {dvs : List V}
theorem pe_d (D : Def X.prog X.w X.K X.mg X.base x k sp dvs) (hr : Room k X.A) (hg : Gl X x) (ha : PA X (e :: es) t) (hdb : (x == ("__debug__" : Str)) = false := by decide)
    (he : starEach (e :: es) X.env = (false, eval e X.env) :: starEach es X.env := by rfl) (hpl : (backTo pos (starEach es X.env)).any (·.1) = false := by rfl) :
    PE X (.Call (.Name x p) (e :: es) [] pos) (tCall sp dvs E0 t) := by
  obtain ⟨f, fd, ps, ds, h1, h2, h3, h4, h5⟩ := D.ex
  exact pe_call h2 hr hg h1 h3 h4 h5 pass0 ha hdb he hpl
theorem pe_d0 (D : Def X.prog X.w X.K X.mg X.base x k sp dvs) (hr : Room k X.A) (hg : Gl X x) (hdb : (x == ("__debug__" : Str)) = false := by decide) :
    PE X (.Call (.Name x p) [] [] pos) (tCall sp dvs E0 tNil) := by
  obtain ⟨f, fd, ps, ds, h1, h2, h3, h4, h5⟩ := D.ex
  exact pe_call0 h2 hr hg h1 h3 h4 h5 pass0 hdb
end
section
variable {P : Program} {w : World} {K : PySem.W.Frag} {mg : Str → Option Value} {base : Heap} {x qual : Str} {params : Arguments} {body : List Stmt} {scope : Scope} {dvs : List V} {kws : List (Str × V)} {f : Addr} {fd : FuncData}
/-- a def with defaults that lets nothing out -/
theorem okD0 {N ps : List Str} {k : Nat} {sp : Sp} (F : FunD K x qual params body scope dvs kws f fd) (S : FnScope N ps scope) (len : ∀ vs H Q E, sp vs H Q E → vs.length = ps.length)
    (hbody : ∀ (cdv : Value) (A : Around) (outer : List Env) (s : Shared) (H : Hp) (vs : List V) (Q : VK) (E : XK), Room k (A.deeper (envOfC qual scope s.heap.objs.size f cdv)) → sp vs H Q E →
      ∃ t, PSs (cxOf CX0 P w K mg base N qual scope f cdv A outer s H E).nox body t ∧ t { nx := fun _ H' => Q .non H', rt := Q } (start N vs) H) : FnOk P w K mg base CX0 (k + 1) f fd ps sp :=
  F.ok S len fun cdv A outer s H vs Q E hr hsp =>
    let ⟨t, h, q⟩ := hbody cdv A outer s H vs Q E hr hsp
    ⟨t, h.nox, q⟩
end
/-! ### numbers as rows of bytes -/
def gtl (r : Nat) : List Nat := if h : r = 0 then [] else (128 + r % 128) :: gtl (r / 128)
termination_by r
decreasing_by omega
theorem gtl0 : gtl 0 = [] := by rw [gtl]; rfl
theorem gtl1 {r : Nat} (h : r ≠ 0) : gtl r = (128 + r % 128) :: gtl (r / 128) := by
  rw [gtl, dif_neg h]
def gapB (n : Nat) : List Nat := ((n % 128) :: gtl (n / 128)).reverse
def val (l : List Nat) : Nat := l.foldl (fun t b => t * 128 + b % 128) 0
theorem val_snoc (l : List Nat) (b : Nat) : val (l ++ [b]) = val l * 128 + b % 128 := by
  unfold val
  rw [List.foldl_append]
  rfl
theorem val_gtl (r : Nat) : val (gtl r).reverse = r := by
  induction r using Nat.strongRecOn with
  | _ r ih =>
    by_cases h : r = 0
    · subst h
      rw [gtl0]
      rfl
    · rw [gtl1 h, List.reverse_cons, val_snoc, ih (r / 128) (by omega)]
      omega
theorem gapB_eq (n : Nat) : gapB n = (gtl (n / 128)).reverse ++ [n % 128] := by
  unfold gapB
  rw [List.reverse_cons]
theorem val_gapB (n : Nat) : val (gapB n) = n := by
  rw [gapB_eq, val_snoc, val_gtl]
  omega
theorem gtl_len : ∀ (k r : Nat), r < 128 ^ k → (gtl r).length ≤ k
  | 0, r, h => by
    have e : r = 0 := by omega
    subst e
    rw [gtl0]
    exact Nat.zero_le _
  | k + 1, r, h => by
    by_cases z : r = 0
    · subst z
      rw [gtl0]
      exact Nat.zero_le _
    · rw [gtl1 z, List.length_cons]
      have := gtl_len k (r / 128) (by rw [Nat.pow_succ] at h; omega)
      omega
theorem gapB_len {n : Nat} (h : n < 268435456) : (gapB n).length ≤ 4 := by
  rw [gapB_eq, List.length_append, List.length_reverse]
  have := gtl_len 3 (n / 128) (by omega)
  show (gtl (n / 128)).length + 1 ≤ 4
  omega
theorem gapB_pos (n : Nat) : 0 < (gapB n).length := by
  rw [gapB_eq, List.length_append]
  show 0 < _ + 1
  omega
theorem gtl_mono (a b : Nat) (h : a ≤ b) : (gtl a).length ≤ (gtl b).length := by
  induction b using Nat.strongRecOn generalizing a with
  | _ b ih =>
    by_cases z : a = 0
    · subst z
      rw [gtl0]
      exact Nat.zero_le _
    · rw [gtl1 z, gtl1 (show b ≠ 0 by omega), List.length_cons, List.length_cons]
      have := ih (b / 128) (by omega) (a / 128) (by omega)
      omega
theorem gapB_mono {a b : Nat} (h : a ≤ b) : (gapB a).length ≤ (gapB b).length := by
  rw [gapB_eq, gapB_eq, List.length_append, List.length_append, List.length_reverse, List.length_reverse]
  have := gtl_mono (a / 128) (b / 128) (by omega)
  exact Nat.add_le_add_right this _
theorem gtl_big (r b : Nat) (h : b ∈ gtl r) : 128 ≤ b ∧ b < 256 := by
  induction r using Nat.strongRecOn with
  | _ r ih =>
    by_cases z : r = 0
    · subst z
      rw [gtl0] at h
      cases h
    · rw [gtl1 z] at h
      rcases List.mem_cons.mp h with e | e
      · omega
      · exact ih (r / 128) (by omega) e
theorem gtl_last (r b : Nat) (h : (gtl r).getLast? = some b) : b ≠ 128 := by
  induction r using Nat.strongRecOn with
  | _ r ih =>
    by_cases z : r = 0
    · subst z
      rw [gtl0] at h
      cases h
    · rw [gtl1 z] at h
      by_cases z2 : r / 128 = 0
      · rw [z2, gtl0] at h
        have e : 128 + r % 128 = b := Option.some.inj h
        omega
      · rw [List.getLast?_cons] at h
        cases q : (gtl (r / 128)).getLast? with
        | none =>
          rw [gtl1 z2] at q
          simp at q
        | some c =>
          rw [q] at h
          have e : c = b := Option.some.inj h
          subst e
          exact ih (r / 128) (by omega) q
theorem gapB_all (n b : Nat) (h : b ∈ gapB n) : b < 256 := by
  rw [gapB_eq] at h
  rcases List.mem_append.mp h with e | e
  · exact (gtl_big _ _ (List.mem_reverse.mp e)).2
  · have : b = n % 128 := by simpa using e
    omega
theorem gapB_head {n b : Nat} (h : (gapB n)[0]? = some b) (hb : 128 ≤ b) : b ≠ 128 := by
  rw [gapB_eq] at h
  cases q : (gtl (n / 128)).reverse with
  | nil =>
    rw [q] at h
    have e : n % 128 = b := Option.some.inj h
    omega
  | cons c l =>
    rw [q] at h
    have e : c = b := Option.some.inj h
    subst e
    refine gtl_last (n / 128) c ?_
    have z : gtl (n / 128) = l.reverse ++ [c] := by
      have := congrArg List.reverse q
      rw [List.reverse_reverse, List.reverse_cons] at this
      exact this
    rw [z]
    simp
theorem gapB_mid {n i b : Nat} (h : (gapB n)[i]? = some b) (hi : i + 1 < (gapB n).length) : 128 ≤ b := by
  rw [gapB_eq] at h hi
  rw [List.length_append] at hi
  have hi' : i < (gtl (n / 128)).reverse.length := by
    have : i + 1 < (gtl (n / 128)).reverse.length + 1 := hi
    omega
  rw [List.getElem?_append_left hi'] at h
  exact (gtl_big _ _ (List.mem_reverse.mp (List.mem_of_getElem? h))).1
theorem gapB_end {n i b : Nat} (h : (gapB n)[i]? = some b) (hi : i + 1 = (gapB n).length) : b < 128 := by
  rw [gapB_eq] at h hi
  rw [List.length_append] at hi
  have e : i = (gtl (n / 128)).reverse.length := by
    have : i + 1 = (gtl (n / 128)).reverse.length + 1 := hi
    omega
  subst e
  rw [List.getElem?_append_right (Nat.le_refl _), Nat.sub_self] at h
  have e : n % 128 = b := Option.some.inj h
  omega
theorem flat_len : ∀ (l : List Nat), (∀ n ∈ l, n < 268435456) → (l.flatMap gapB).length ≤ 4 * l.length
  | [], _ => Nat.zero_le _
  | n :: l, h => by
    have h1 := flat_len l fun m hm => h m (List.mem_cons_of_mem _ hm)
    have h2 := gapB_len (h n (List.mem_cons_self ..))
    rw [List.flatMap_cons, List.length_append, List.length_cons]
    omega
def nums (l : List Nat) : List V := l.map fun (n : Nat) => V.int (n : Int)
theorem nums_snoc (l : List Nat) (b : Nat) : nums (l ++ [b]) = nums l ++ [.int (b : Int)] := by
  unfold nums
  rw [List.map_append]
  rfl
theorem nums_len (l : List Nat) : (nums l).length = l.length := by
  unfold nums
  rw [List.length_map]
theorem nums_at {l : List Nat} {i b : Nat} (h : l[i]? = some b) : (nums l)[i]? = some (.int (b : Int)) := by
  unfold nums
  rw [List.getElem?_map, h]
  rfl
theorem nums_app (l r : List Nat) : nums (l ++ r) = nums l ++ nums r := by
  unfold nums
  rw [List.map_append]
theorem nums_eq (l : List Nat) : nums l = (l.map fun (n : Nat) => (n : Int)).map V.int := by
  unfold nums
  rw [List.map_map]
  rfl
theorem nums_inv {l : List Nat} {i : Nat} {y : V} (h : (nums l)[i]? = some y) : ∃ b, l[i]? = some b ∧ y = .int (b : Int) := by
  unfold nums at h
  rw [List.getElem?_map] at h
  cases e : l[i]? with
  | none => rw [e] at h; cases h
  | some x => rw [e] at h; exact ⟨x, rfl, (Option.some.inj h).symm⟩
/-! ### names of the language -/
theorem bt_isinstance : bootBuiltins ("isinstance" : Str) = some (.builtin "isinstance") := by decide +kernel
theorem bt_all : bootBuiltins ("all" : Str) = some (.builtin "all") := by decide +kernel
theorem bt_any : bootBuiltins ("any" : Str) = some (.builtin "any") := by decide +kernel
theorem bt_sum : bootBuiltins ("sum" : Str) = some (.builtin "sum") := by decide +kernel
theorem bt_sorted : bootBuiltins ("sorted" : Str) = some (.builtin "sorted") := by decide +kernel
theorem bt_min : bootBuiltins ("min" : Str) = some (.builtin "min") := by decide +kernel
theorem bt_max : bootBuiltins ("max" : Str) = some (.builtin "max") := by decide +kernel
theorem bt_ord : bootBuiltins ("ord" : Str) = some (.builtin "ord") := by decide +kernel
theorem bt_abs : bootBuiltins ("abs" : Str) = some (.builtin "abs") := by decide +kernel
theorem bt_chr : bootBuiltins ("chr" : Str) = some (.builtin "chr") := by decide +kernel
theorem bt_list : bootBuiltins ("list" : Str) = some (.type "list") := by decide +kernel
theorem bt_tuple : bootBuiltins ("tuple" : Str) = some (.type "tuple") := by decide +kernel
theorem bt_int : bootBuiltins ("int" : Str) = some (.type "int") := by decide +kernel
theorem bt_str : bootBuiltins ("str" : Str) = some (.type "str") := by decide +kernel
theorem bt_bool : bootBuiltins ("bool" : Str) = some (.type "bool") := by decide +kernel
theorem bt_dict : bootBuiltins ("dict" : Str) = some (.type "dict") := by decide +kernel
def rLenQ (K : PySem.W.Frag) : List V → Hp → VK → Prop := fun xs H Q => ∃ p ys, xs = [.ref p] ∧ (SqL K H p ys ∨ SqT K H p ys) ∧ Q (.int ys.length) H
theorem call_lenQ {X : Cx} : CallR X (.builtin "len") (rLenQ X.K) := call_len_seq
theorem map_ref {ps : List Addr} {i : Nat} {x : Addr} (h : ps[i]? = some x) : (ps.map V.ref)[i]? = some (.ref x) := by
  rw [List.getElem?_map, h]
  rfl
theorem any_rep (n : Nat) : (List.replicate n false).any id = false := by
  induction n with
  | zero => rfl
  | succ k ih => rw [List.replicate_succ, List.any_cons, ih]; rfl
theorem all_rep (n : Nat) : (List.replicate n true).all id = true := by
  induction n with
  | zero => rfl
  | succ k ih => rw [List.replicate_succ, List.all_cons, ih]; rfl
/-- gap_bytes of a number within its bounds: a new list -/
def spGapBytes : Sp := fun vs H Q _ => ∃ (n : Nat) (H0 : Hp), vs = [.int (n : Int)] ∧ n < 268435456 ∧ Ex H0 H ∧
  ∀ (p : Addr) (H' : Hp), Go (fun _ => False) H0 H H0 H' → H p = none → H' p = some (.lst (nums (gapB n))) → Q (.ref p) H'
theorem str_len (a b : Str) : (a ++ b).length = a.length + b.length := by
  first
    | exact PySem.strLen_append a b
    | exact PySem.Str.length_append a b
theorem log_small {n : Nat} (h : n < 10 ^ 40) : n.log2 < 1920 := by
  by_cases z : n = 0
  · subst z
    decide
  · rw [Nat.log2_lt z]
    exact Nat.lt_of_lt_of_le h (Nat.le_trans (show 10 ^ 40 ≤ 2 ^ 160 by decide) (Nat.pow_le_pow_right (by decide) (by decide)))
theorem txt_sz {a : Str} {i : Int} (ha : a.length ≤ 1000) (h : i.natAbs < 10 ^ 40) : (a ++ (toString i : String)).length ≤ 3000 := by
  have h2 := PyProof.Rows.int_text_len_1921 (log_small h)
  rw [str_len]
  have : (PySem.Str.ofString (toString i)).length ≤ 1921 := h2
  omega
/-! ### data that stand in a heap -/
theorem Ex.tup {K : PySem.W.Frag} {H H' : Hp} {a : Addr} {xs : List V} (e : Ex H H') (h : SqT K H a xs) : SqT K H' a xs := by
  rcases h with (h | ⟨o, h⟩) | h
  · exact .inl (.inl (e _ _ h))
  · exact .inl (.inr ⟨o, e _ _ h⟩)
  · exact .inr h
mutual
theorem dp_up {K : PySem.W.Frag} {H H' : Hp} (e : Ex H H') : ∀ (d : PyData) (v : V), Dp K H v d → Dp K H' v d
  | .none, _, h => by cases h; exact .non
  | .bool b, _, h => by cases h; exact .bl b
  | .int i, _, h => by cases h; exact .int i
  | .str x, _, h => by cases h; exact .str x
  | .list ds, _, h => by
    cases h with
    | lst hs ha => exact .lst (e.seq hs) (dpa_up e ds _ ha)
  | .tuple ds, _, h => by
    cases h with
    | tup hs ha => exact .tup (e.tup hs) (dpa_up e ds _ ha)
  | .dict _, _, h => by cases h
theorem dpa_up {K : PySem.W.Frag} {H H' : Hp} (e : Ex H H') : ∀ (ds : List PyData) (vs : List V), DpAll K H vs ds → DpAll K H' vs ds
  | [], _, h => by cases h; exact .nil
  | d :: ds, _, h => by
    cases h with
    | cons h1 h2 => exact .cons (dp_up e d _ h1) (dpa_up e ds _ h2)
end
theorem dpa_len {K : PySem.W.Frag} {H : Hp} : ∀ {ds : List PyData} {vs : List V}, DpAll K H vs ds → vs.length = ds.length
  | [], _, h => by cases h; rfl
  | d :: ds, _, h => by
    cases h with
    | cons h1 h2 => exact congrArg Nat.succ (dpa_len h2)
theorem dpa_at {K : PySem.W.Frag} {H : Hp} : ∀ (ds : List PyData) (vs : List V) (i : Nat) (d : PyData), DpAll K H vs ds → ds[i]? = some d → ∃ v, vs[i]? = some v ∧ Dp K H v d
  | [], _, _, _, _, h => by simp at h
  | d :: ds, _, 0, d', h, e => by
    cases h with
    | cons h1 h2 =>
      have e := Option.some.inj e
      subst e
      exact ⟨_, rfl, h1⟩
  | d :: ds, _, i + 1, d', h, e => by
    cases h with
    | cons h1 h2 =>
      obtain ⟨v, e1, e2⟩ := dpa_at ds _ i d' h2 e
      exact ⟨v, e1, e2⟩
theorem dep_at : ∀ {ds : List PyData} {i : Nat} {d : PyData}, ds[i]? = some d → d.depth ≤ PyData.depthAll ds
  | [], _, _, e => by simp at e
  | d :: ds, 0, d', e => by
    have e := Option.some.inj e
    subst e
    exact Nat.le_max_left _ _
  | d :: ds, i + 1, d', e => Nat.le_trans (dep_at (ds := ds) e) (Nat.le_max_right _ _)
mutual
/-- no list in it is longer than 100000 -/
def smA : PyData → Prop
  | .list xs => xs.length ≤ 100000 ∧ smAll xs
  | .tuple xs => xs.length ≤ 100000 ∧ smAll xs
  | .dict _ => False
  | .none => True
  | .bool _ => True
  | .int _ => True
  | .str _ => True
def smAll : List PyData → Prop
  | [] => True
  | x :: xs => smA x ∧ smAll xs
end
theorem sm_at : ∀ {ds : List PyData} {i : Nat} {d : PyData}, smAll ds → ds[i]? = some d → smA d
  | [], _, _, _, e => by simp at e
  | d :: ds, 0, d', h, e => by
    have e := Option.some.inj e
    subst e
    exact h.1
  | d :: ds, i + 1, d', h, e => sm_at (ds := ds) h.2 e
theorem tyL {K : PySem.W.Frag} {H : Hp} {a : Addr} {xs : List V} (h : SqL K H a xs) : TyX K H (.ref a) (.type "list") := by
  rcases h with (h | ⟨o, h⟩) | ⟨o, its, n, h1, h2, _⟩
  · exact .base (.lst h)
  · exact .base (.frz h)
  · exact .kList h1 h2
theorem tyT {K : PySem.W.Frag} {H : Hp} {a : Addr} {xs : List V} (h : SqT K H a xs) : TyX K H (.ref a) (.type "tuple") := by
  rcases h with (h | ⟨o, h⟩) | ⟨o, its, n, h1, h2, _⟩
  · exact .base (.tup h)
  · exact .fTuple h
  · exact .kTuple h1 h2
/-- the type of a datum -/
def tyOf : PyData → String
  | .none => "NoneType"
  | .bool _ => "bool"
  | .int _ => "int"
  | .str _ => "str"
  | .list _ => "list"
  | .tuple _ => "tuple"
  | .dict _ => "dict"
theorem tyD {K : PySem.W.Frag} {H : Hp} {v : V} {d : PyData} (h : Dp K H v d) : TyX K H v (.type (tyOf d)) := by
  cases h with
  | non => exact .base .non
  | bl b => exact .base (.bl b)
  | int i => exact .base (.int i)
  | str x => exact .base (.str x)
  | lst hs _ => exact tyL hs
  | tup hs _ => exact tyT hs
theorem pe_nev {X : Cx} {e : Expr} : PE X e (fun _ _ _ => False) := ⟨fun _ _ _ _ _ _ h => h.elim⟩
theorem go_ex {H0 H H0' H' : Hp} (g : Go (fun _ => False) H0 H H0' H') : Ex H H' := fun b o h => g.keep b o h fun z => z
/-! ### ifs -/
theorem ifT {c : Bool} {A B : Prop} (hc : c = true) (h : A) : if c = true then A else B := by
  rw [if_pos hc]
  exact h
theorem ifF {c : Bool} {A B : Prop} (hc : c = false) (h : B) : if c = true then A else B := by
  rw [hc, if_neg Bool.false_ne_true]
  exact h
theorem ifD {c : Prop} [Decidable c] {A B : Prop} (h1 : c → A) (h2 : ¬ c → B) : if decide c = true then A else B := by
  by_cases h : c
  · exact ifT (decide_eq_true h) (h1 h)
  · exact ifF (decide_eq_false h) (h2 h)
theorem mem_sz {n : Nat} (h : n ≤ 1000000) : n ≤ sizeLine := Nat.le_trans h (by rw [sizeLine_eq]; decide)
theorem mem_lt {n : Nat} (h : n ≤ 1000000) : n < sizeLine := Nat.lt_of_le_of_lt h (by rw [sizeLine_eq]; decide)
theorem map_int {ns : List Int} {i : Nat} {x : Int} (h : ns[i]? = some x) : (ns.map V.int)[i]? = some (.int x) := by
  rw [List.getElem?_map, h]
  rfl
theorem map_int_inv {ns : List Int} {i : Nat} {y : V} (h : (ns.map V.int)[i]? = some y) : ∃ x, ns[i]? = some x ∧ y = .int x := by
  rw [List.getElem?_map] at h
  cases e : ns[i]? with
  | none => rw [e] at h; cases h
  | some x => rw [e] at h; exact ⟨x, rfl, (Option.some.inj h).symm⟩
end Rt

namespace Rt
open PySem PySem.Spec PySem.W PySem.Calls PyProof.Rows Builtin Builtin.ObjectAttr Builtin.Getset_descriptor
/-- the class at C bears the name z -/
structure Nmd (K : PySem.W.Frag) (C : Addr) (z : Str) : Prop where
  rd : PySem.W.readsIn K C (.type "type") = true
  fc : PySem.W.findCls K (.ref C) (.type "type") "__name__" = some (.get (.builtin "getset_descriptor.__get__") (.builtin "type.__name__") (.ref C) (.type "type"))
  ty : PySem.W.typeIn K (.ref C) = some (.type "type")
  nm : ∃ o tk, K.lookup C = some o ∧ (o.slots[2]?).join = some (.str z tk)
section
variable {prog : Program} {w : World} {A : Around} {E : Value → Shared → Prop} {s : Shared} {K : PySem.W.Frag} {R : Result → Shared → Prop}
theorem name_dga (d tp : Value) (C : Addr) : descrGetArgs ⟨[d, .ref C, tp], []⟩ = pure (d, some (.ref C), given tp) := by kernel_rfl
theorem name_get {C : Addr} {z : Str} {tp : Value} (X : K.In s.heap) (N : Nmd K C z) (h : ∀ tk, R (.ok (.ret (.str z tk))) s) :
    codeAny (model prog w) A (.call (.builtin "getset_descriptor.__get__") ⟨[.builtin "type.__name__", .ref C, tp], []⟩) R s := by
  obtain ⟨o, tk, hC, hz⟩ := N.nm
  obtain ⟨hh, g, dr, t, os⟩ := s
  have L0 : PySem.W.Looks (model prog w) hh (typeOf (.ref C)) (.type "type") := looks_typeIn X N.ty
  have L1 : PySem.W.Looks (model prog w) hh (isSubtype (.type "type") (.type "type")) true := Looks.of_pure (by rw [isSubtype_type]; kernel_rfl)
  have hget : hh.get? C = some o := X _ _ hC
  refine codeAny_call_builtin KF.slot_gs.plain KF.entry_gs (KF.slot_gs.check _ _ _ _ _ _ _ _ ktyn_type (KF.args_gs _ _ _) ?_)
  unfold Builtin.«getset_descriptor.__get__» descrGet
  rw [name_dga]
  refine wpAny_bind (wpAny_pure ?_)
  unfold descrGetter descrCheckInstance descrNameAndClass isInstance
  simp only [ktyn_owner]
  repeat lk
  refine ⟨Code.quiet_builtin _ (by decide +kernel), codeAny_builtin ktyn_entry ?_⟩
  unfold Builtin.«type.__name__»
  dsimp only
  unfold Builtin.keptObject slotAt
  refine wpAny_bind (wpAny_bind (wpAny_loadPart_at hget (wpAny_pure ?_)))
  rw [hz]
  exact wpAny_pure (h tk)
/-- C.__name__ -/
theorem name_attr {C : Addr} {z : Str} {expr : Bool} {Q : Value → Shared → Prop} (X : K.In s.heap) (N : Nmd K C z) (h : ∀ tk, Q (.str z tk) { s with toks := s.toks + 1 }) : wpAny (model prog w) A (getAttr (.ref C) "__name__" expr) Q E s := by
  refine cls_bind X N.rd N.fc ?_
  exact wpAny_call (name_get (s := { s with toks := s.toks + 1 }) X N fun tk => handed_on rfl (h tk))
end
/-- what an error's class says of __class__ -/
structure ClsE (K : PySem.W.Frag) (C : Addr) : Prop where
  ga : PySem.W.findIn K (.ref C) "__getattribute__" = some (some (.builtin "BaseException.__getattribute__"))
  gg : PySem.W.findIn K (.ref C) "__getattr__" = some none
  sb : PySem.W.subIn K (.ref C) (.type "BaseException") = some true
  hd : PySem.W.hasDictIn K C = true
  ca : PySem.W.findIn K (.ref C) "__class__" = some (some (.builtin "object.__class__"))
  cg : PySem.W.specialIn K (.builtin "object.__class__") "__get__" = some (some (.builtin "getset_descriptor.__get__"))
  ct : PySem.W.takesIn K (.builtin "object.__class__") = some true
  mo : PySem.W.mroIn K C (.type "object") = some true
section
variable {prog : Program} {w : World} {A : Around} {E : Value → Shared → Prop} {s : Shared} {K : PySem.W.Frag} {x D : Addr} {ox : Obj} {od : Option Obj}
/-- x.__class__ of an error of the class at D -/
theorem cls_attr {expr : Bool} {Q : Value → Shared → Prop} (T : ClsE K D) (X : K.In s.heap) (I : PySem.W.InstAt s.heap x ox D od) (hf : PySem.W.findObj K D od "__class__" = some (.bind (.builtin "getset_descriptor.__get__") (.builtin "object.__class__")))
    (h : Q (.ref D) { s with toks := s.toks + 1 }) : wpAny (model prog w) A (getAttr (.ref x) "__class__" expr) Q E s := by
  obtain ⟨hp, g, d, t, os⟩ := s
  have K0 := I.type (M := model prog w)
  have K1 := looks_findIn (M := model prog w) X T.ga
  have K2 := looks_findIn (M := model prog w) X T.gg
  have K3 := looks_find (M := model prog w) X I hf
  have up : PySem.W.Looks (model prog w) hp (isInstance (.ref x) (.type "BaseException")) true := K0.andThen (looks_subIn X T.sb)
  have b0 : (expr && onTheHeap (Value.builtin "BaseException.__getattribute__")) = false := by cases expr <;> rfl
  have b2 : (Value.builtin "BaseException.__getattribute__" == Value.builtin "object.__getattribute__") = false := by decide +kernel
  have b1 : (onTheHeap (Value.ref D) && Value.builtin "BaseException.__getattribute__" == Value.builtin "object.__getattribute__") = false := by rw [b2]; rfl
  unfold getAttr getAttrBy
  refine wpAny_bind (wpAny_mkText ?_)
  refine wpAny_holding (wpAny_bind (K0.at (wpAny_bind (K1.at ?_))))
  show wpAny _ _ (if (onTheHeap (Value.ref D) && Value.builtin "BaseException.__getattribute__" == Value.builtin "object.__getattribute__") = true then _ else _) _ _ _
  rw [b1]
  rw [if_neg Bool.false_ne_true]
  unfold getAttrByItsOwn hookBefore
  refine wpAny_bind ?_
  rw [if_pos (show onTheHeap (Value.ref D) = true by rfl)]
  refine K2.at (wpAny_bind (wpAny_attempt ?_))
  refine wpAny_holding ?_
  unfold callGetattribute
  rw [b0]
  rw [if_neg Bool.false_ne_true]
  unfold boundAndCalled
  rw [PySem.F.excAttr_ValueError.ga.bind (Value.ref x)]
  refine wpAny_bind (wpAny_pure ?_)
  show wpAny _ _ (call (.builtin "BaseException.__getattribute__") [.ref x, .str "__class__" t]) _ _ _
  refine wpAny_call ?_
  refine codeAny_call_builtin PySem.F.excAttr_ValueError.ga.plain PySem.F.entry_bexc_ga ?_
  refine @check_slot (model prog w) _ _ ⟨hp, g, d, t + 1, os⟩ "BaseException.__getattribute__" "BaseException" "__getattribute__" (.ref x) [.str "__class__" t] [] _ (by decide +kernel) (by decide +kernel) up (PySem.F.args_bexc_ga (.ref x) (.str "__class__" t)) ?_
  unfold Builtin.«object.__getattribute__»
  refine wpAny_bind (wpAny_of_eq (a := ((Value.ref x : Value), [Value.str "__class__" t])) (by first | rfl | (simp only [slotArgs]; rfl)) ?_)
  refine wpAny_bind (wpAny_pure (wpAny_bind (K0.at ?_)))
  refine wpAny_bind (K3.at ?_)
  show wpAny _ _ (holding [Value.builtin "object.__class__"] (call (.builtin "getset_descriptor.__get__") [.builtin "object.__class__", .ref x, .ref D]) >>= ret) _ _ _
  refine wpAny_bind (wpAny_holding (wpAny_call ?_))
  refine class_get (s := ⟨hp, g, d, t + 1, os⟩) (ox := ox) (od := od) X I T.mo ?_
  first
    | exact wpAny_pure (handed_on rfl (wpAny_pure h))
    | exact wpAny_pure (handed_on rfl h)
    | exact wpAny_pure (wpAny_bind (handed_on rfl (wpAny_pure h)))
end
end Rt

namespace Rt
open PySem PySem.Spec PyProof.Rows L2
/-! ### errors with the field called -/
def tCN (K : PySem.W.Frag) (te : TE) : TE := fun σ H Q => te σ H fun x H1 => ∃ (a C : Addr) (z : Str), x = .ref a ∧ ClsE K C ∧ Nmd K C z ∧ H1 a = some (exo a C none) ∧ Q (.str z) H1
/-- self.__class__.__name__ of an error that is being made -/
theorem pe_cn {X : Cx} {o : Expr} {te : TE} {p1 p2 : Pos} (ho : PE X o te) (hb1 : attributeBase o "__class__" X.env (eval o X.env) = eval o X.env := by rfl)
    (hb2 : attributeBase (.Attribute o "__class__" p1) "__name__" X.env (eval (.Attribute o "__class__" p1) X.env) = eval (.Attribute o "__class__" p1) X.env := by rfl) :
    PE X (.Attribute (.Attribute o "__class__" p1) "__name__" p2) (tCN X.K te) := by
  refine ⟨fun pins s σ H Q I h => ?_⟩
  refine attr_of hb2 (attr_of hb1 (thn (ho.run pins s σ H _ I h) fun u s1 hh => ?_))
  obtain ⟨x, H1, I1, rx, a, C, z, ex, T, N, ea, q⟩ := hh
  subst ex
  obtain rfl : u = Value.ref a := rx
  obtain ⟨t1, he⟩ := exo_at I1.hok ea
  have J : PySem.W.InstAt s1.heap a _ C none := ⟨he, rfl, rfl, trivial⟩
  have hf := PySem.W.findObj_dataN (K := X.K) (C := C) (name := "__class__") (by obtain ⟨cd, hc, _⟩ := PySem.W.any_some T.hd; rw [hc]; rfl) T.ca T.cg T.ct
  refine cls_attr T I1.kIn J hf ?_
  have I2 := I1.tok (s1.toks + 1)
  refine name_attr I2.kIn N fun tk => ?_
  exact ⟨.str z, H1, I2.tok _, ⟨tk, rfl⟩, q⟩
/-- all that a raise asks of an error's class: its name, its class object, the word that its errors bear -/
structure Err (K : PySem.W.Frag) (mg : Str → Option Value) (x : Str) (C : Addr) (z word : Str) : Prop where
  g : mg x = some (.ref C)
  oex : OexC K C
  cls : ClsE K C
  nmd : Nmd K C z
  nc : PySem.W.findIn K (.ref C) "called" = some none
  low : Txt.lower z = word
  sz : z.length ≤ 1000
/-- TapeError.__init__ (and its like): self.called is the class's name in small letters -/
def spInit (K : PySem.W.Frag) : Sp := fun vs H Q _ => ∃ (a C : Addr) (why : V) (z : Str), vs = [.ref a, why] ∧ OexC K C ∧ ClsE K C ∧ Nmd K C z ∧ PySem.W.findIn K (.ref C) "called" = some none ∧ z.length ≤ 1000 ∧ H a = some (exo a C none) ∧
  ∀ dx, H dx = none → dx ≠ a → Q .non (upd (upd H dx (exd dx [("called", .str (Txt.lower z))])) a (exo a C (some dx)))
/-- the rule of __init__ as the program has it -/
theorem init_reads {K : PySem.W.Frag} {Q : VK} {E : XK} {vs : List V} {H : Hp} (h : spInit K vs H Q E) :
    tSeq (tDrop (tVeI K (tCons (tVar 0) (tCons (tVar 1) tNil)))) (tSeq (tAsg (tCN K (tVar 0)) (gName 2)) (tOst K "called" (tVar 0) (fun σ H Q => (tVar 2) σ H fun x H1 => ∃ a, x = .str a ∧ ([] : List V) = [] ∧ a.length ≤ 5592405 ∧ Q (.str (Txt.lower a)) H1)))
      { nx := fun _ H' => Q .non H', rt := Q } (L2.start ["self", "why", "name"] vs) H := by
  obtain ⟨a, C, why, z, rfl, T1, T2, T3, T4, hz, ha, q⟩ := h
  refine ⟨_, rfl, _, rfl, a, C, _, rfl, (by show 1 ≤ 1000; decide), T1, ha, ?_⟩
  refine ⟨_, rfl, a, C, z, rfl, T2, T3, ha, ?_⟩
  refine ⟨_, rfl, _, rfl, rfl, by omega, ?_⟩
  exact ⟨_, rfl, a, C, rfl, T1, T4, .inl ⟨ha, fun dx h1 h2 => q dx h1 h2⟩⟩
end Rt

namespace Rt
open PySem PySem.Spec PyProof.Rows L2
/-! ### several clauses, each with a name (slot i) -/
abbrev wipeEnds (i : Nat) (D : Ends) : Ends := { nx := fun τ G => D.nx (τ.set i none) G, rt := D.rt, bk := fun τ G => D.bk (τ.set i none) G, ct := fun τ G => D.ct (τ.set i none) G }
def wAll (K : PySem.W.Frag) (i : Nat) (W0 : WX) (D : Ends) : List (Value × (Addr → Value → Option Addr → TS)) → WX
  | [] => W0
  | p :: r => fun cls d τ G => ∃ b, PySem.W.exmOne K cls p.1 = some b ∧ (b = true → ∀ a, G a = none → p.2 a cls d (wipeEnds i D) (τ.set i (some (.ref a))) G) ∧ (b = false → wAll K i W0 D r cls d τ G)
inductive Hds (X : Cx) (n : Str) : List ExceptHandler → List (Value × (Addr → Value → Option Addr → TS)) → Prop
  | nil : Hds X n [] []
  | cons {x : Str} {c : Value} {ts : Addr → Value → Option Addr → TS} {b₀ : Stmt} {su : List Stmt} {np q : Pos} {hds : List ExceptHandler} {l : List (Value × (Addr → Value → Option Addr → TS))} (hc : Names X x c)
      (go : ∀ (a : Addr) (oe : Obj) (cls : Value) (d : Option Addr) (pn : List (Addr × Obj)), Zc cls d oe → (∃ vs, oe.data = .fields vs) → PSs (X.suite a ((a, oe) :: pn)) (b₀ :: su) (ts a cls d)) (r : Hds X n hds l) :
      Hds X n (.ExceptHandler (some (.Name x np)) (some n) (b₀ :: su) q :: hds) ((c, ts) :: l)
section
variable {X : Cx} {n : Str} {i : Nat} {body : List Stmt} {h1 : ExceptHandler} {hds : List ExceptHandler} {l : List (Value × (Addr → Value → Option Addr → TS))} {pos : Pos} {tb : WX → TS} {W0 : WX}
theorem ps_try_all (hs : X.stack = X.env :: X.outer) (hf : X.env.frame = some X.env.locals) (hN : X.N.Nodup) (hi : X.N[i]? = some n) (hln : X.env.kindOf n = some .local) (tk : Takes X W0)
    (hb : ∀ (W : WX) (pn : List (Addr × Obj)) (xe : Value → Shared → Prop), Takes (X.tr pn xe) W → PassesOwn (model X.prog X.w) X.A X.env xe → PSs (X.tr pn xe) body (tb W))
    (hh : Hds X n (h1 :: hds) l) : PS X (.Try body (h1 :: hds) [] [] pos) (fun D σ H => tb (wAll X.K i W0 D l) D σ H) := by
  refine ⟨fun pins s σ H D I h => ?_⟩
  have ok := I.ok
  have frm : X.A.frames = some (X.env :: X.outer) := by
    rw [ok.frames, hs]
  have nloc : Loc X.env.scope n := Or.inl hln
  have run := (hb (wAll X.K i W0 D l) (X.pn ++ pins) (fun e s₁ => wpAny (model X.prog X.w) X.A (noteFrame e X.env) (fun _ s₂ => wpAny (model X.prog X.w) X.A (setFlight e none) (fun _ s₃ =>
    wpAny (model X.prog X.w) X.A (handleBy e X.env (h1 :: hds)) (SP X pins D) X.xe s₃) X.xe s₂) X.xe s₁) (fun u s' xx => ?_) PassesOwn.looking).run [] s σ H D (I.toTry _) h
  · refine wpAny_Try_except (wpAny_mono run (fun f s1 hsp => ?_) (fun e s1 he => he))
    cases f with
    | next =>
      obtain ⟨τ, G, J, q⟩ := hsp
      exact wpAny_execs_nil ⟨τ, G, J.ofTry ok, q⟩
    | brk =>
      obtain ⟨τ, G, J, q⟩ := hsp
      exact ⟨τ, G, J.ofTry ok, q⟩
    | cont =>
      obtain ⟨τ, G, J, q⟩ := hsp
      exact ⟨τ, G, J.ofTry ok, q⟩
    | ret u =>
      obtain ⟨v, τ, G, J, r, q⟩ := hsp
      exact ⟨v, τ, G, J.ofTry ok, r, q⟩
  · obtain ⟨a, B, sI, pins', τ, G, cls, d, rfl, J', nb, up, sky, na, os, ag, w⟩ := xx
    have J : Inv X pins τ G sI := J'.ofTry ok
    have sky1 : Sky B (X.env :: X.outer) a (Zc cls d) X.env.locals s'.heap := by
      rw [← hs]; exact sky
    show wpAny (model X.prog X.w) X.A (noteFrame (.ref a) X.env) _ _ _
    refine Sky.land Zc.steady frm hf sky1 fun h3 fl3 up3 => ?_
    have J3 : Inv X pins τ G { s' with heap := h3 } := J.landed nb fl3.1 (up.trans up3) os ag
    obtain ⟨oe3, vs3, he3, hz3, hd3⟩ := fl3.there
    have off : ∀ {k : Heap} {o : Obj} {vs : Array Value}, k.FunFrames B (X.env :: X.outer) → k.get? a = some o → o.data = .fields vs → a ∉ frs (X.env :: X.outer) := by
      intro k o vs ff e dd hm
      obtain ⟨_, o', e', hnf⟩ := ff.mem hm
      rw [e] at e'
      cases e'
      exact hnf _ dd
    have nfr := off fl3.2.2.1 he3 hd3
    have nL : a ≠ X.env.locals := by
      intro z
      exact nfr (List.mem_filterMap.mpr ⟨X.env, List.mem_cons_self, by rw [hf, z]⟩)
    have nF : a ∉ X.fs := by
      intro hm
      obtain ⟨e, he, q⟩ := List.mem_filterMap.mp hm
      exact nfr (List.mem_filterMap.mpr ⟨e, List.mem_cons_of_mem _ he, q⟩)
    have S3 := J3.suite he3 hd3 na nL nF
    have go : ∀ {hds' : List ExceptHandler} {l' : List (Value × (Addr → Value → Option Addr → TS))}, Hds X n hds' l' → wAll X.K i W0 D l' cls d τ G →
        wpAny (model X.prog X.w) X.A (handleBy (.ref a) X.env hds') (SP X pins D) X.xe { s' with heap := h3 } := by
      intro hds' l' hk
      induction hk with
      | nil =>
        intro w
        refine wpAny_handleBy_nil ?_
        obtain ⟨k1, k2, k3, oe, vs, T, oT, ts', he, hz, hd, hv1, hr⟩ := id fl3
        unfold PySem.passOn
        refine wpAny_bind (wpAny_field he hd hv1 ?_)
        rw [if_neg (show ¬ ((Value.ref T == Value.none) = true) by simp)]
        have out : wpAny (model X.prog X.w) X.A (setFlight (.ref a) X.env.frame) (fun _ s4 => wpAny (model X.prog X.w) X.A (throw (.ref a) : Sem Flow) (SP X pins D) X.xe s4) X.xe { s' with heap := h3 } := by
          rw [hf]
          refine HandSPX.setFlight_upZ fl3 fun h4 hh4 up4 => ?_
          refine wpAny_throw (tk _ _ ⟨a, B, sI, pins, τ, G, cls, d, rfl, J, nb, (up.trans up3).trans up4, ?_, na, os, ag, w⟩)
          exact Or.inr (Or.inr (by rw [hs]; exact hh4))
        first
          | exact wpAny_bind (wpAny_pure (wpAny_bind out))
          | exact wpAny_bind out
      | @cons x c ts b₀ su np q hds2 l2 hc hsu r ih =>
        intro w
        obtain ⟨b, hb1, hyes, hno⟩ := w
        refine wpAny_handleBy_cons (codeAny_handlers_test ?_) (by intro q; cases q)
        have LT : PySem.W.Looks (model X.prog X.w) h3 (typeOf (.ref a)) cls := by
          intro A Q E s k q
          exact wpAny_typeOf_ref (k _ _ he3) (by rw [hz3.1]; exact q)
        have LM := PySem.W.exm_one (M := model X.prog X.w) (J3.kIn) LT hb1
        have test : ∀ {Q : Value → Shared → Prop} {E : Value → Shared → Prop}, Q c { s' with heap := h3 } → wpAny (model X.prog X.w) (X.A.mark (some (.ref a))) (eval (.Name x np) X.env) Q E { s' with heap := h3 } := by
          intro Q E q
          obtain ⟨hg, hdbg, hm⟩ := hc
          rcases hm with hm | ⟨hm, hv, hnn⟩
          · exact ld_glob (X := X.suite a ((a, oe3) :: (X.pn ++ pins))) S3 hg hm q hdbg
          · exact ld_blt (X := X.suite a ((a, oe3) :: (X.pn ++ pins))) S3 hg hm hv q hnn hdbg
        refine test (LM.here ?_)
        cases b with
        | false =>
          show wpAny _ X.A (handleBy (.ref a) X.env hds2) _ _ _
          exact ih (hno rfl)
        | true =>
          refine codeAny_handlers_suite_as (HandSPX.lands_againZ fl3 fun h4 fl4 up4 => ?_)
          have J4 : Inv X pins τ G { s' with heap := h4 } := J.landed nb fl4.1 ((up.trans up3).trans up4) os ag
          obtain ⟨oe4, vs4, he4, hz4, hd4⟩ := fl4.there
          have S4 := J4.suite he4 hd4 na nL nF
          refine store_ok (X := X.suite a ((a, oe4) :: (X.pn ++ pins))) (v := .ref a) S4 hN hi nloc rfl (fun s5 S5 => ?_) (Or.inr hln)
          have fin : ∀ {τ6 : L2.St} {G6 : Hp} {s6 : Shared} {Q : Shared → Prop}, Inv (X.suite a ((a, oe4) :: (X.pn ++ pins))) [] τ6 G6 s6 → (∀ s7, Inv X pins (τ6.set i none) G6 s7 → Q s7) →
              wpAny (model X.prog X.w) X.A (do bindName X.env n .none; unbindBehindTheSuite X.env n q) (fun _ s7 => Q s7) X.xe s6 := by
            intro τ6 G6 s6 Q S6 hq
            exact gone_ok (S6.unsuite ok) hN hi hln hq
          refine wpAny_mono ((hsu a oe4 cls d (X.pn ++ pins) hz4 ⟨_, hd4⟩).run [] s5 _ G _ S5 (hyes rfl a na)) (fun f s6 hsp => ?_) (fun _ _ z => False.elim z)
          cases f with
          | next =>
            obtain ⟨τ6, G6, S6, q6⟩ := hsp
            exact fin S6 fun s7 J7 => ⟨_, _, J7, q6⟩
          | brk =>
            obtain ⟨τ6, G6, S6, q6⟩ := hsp
            exact fin S6 fun s7 J7 => ⟨_, _, J7, q6⟩
          | cont =>
            obtain ⟨τ6, G6, S6, q6⟩ := hsp
            exact fin S6 fun s7 J7 => ⟨_, _, J7, q6⟩
          | ret u =>
            obtain ⟨v6, τ6, G6, S6, r6, q6⟩ := hsp
            exact fin S6 fun s7 J7 => ⟨_, _, _, J7, r6, q6⟩
    exact go hh w
end
end Rt

namespace Rt
open PySem PySem.Spec PyProof.Rows L2
/-- an error of the program, in flight: its class bears word (tape: under TapeError, else under MissingError); nothing else is turned -/
structure Raised (K : PySem.W.Frag) (mg : Str → Option Value) (word : Str) (tape : Bool) (H : Hp) (cls : Value) (d : Option Addr) (H' : Hp) : Prop where
  ex : ∃ (C CT CM dd : Addr), cls = .ref C ∧ d = some dd ∧ H dd = none ∧ H' = upd H dd (.xd [("called", .str word)]) ∧ XfC K C ∧ PySem.W.findIn K (.ref C) "called" = some none ∧
    mg "TapeError" = some (.ref CT) ∧ mg "MissingError" = some (.ref CM) ∧ PySem.W.exmOne K (.ref C) (.ref CT) = some tape ∧ (tape = false → PySem.W.exmOne K (.ref C) (.ref CM) = some true)
/-- an error's class with its __init__ (level k) -/
structure ErrK (P : Program) (w : World) (K : PySem.W.Frag) (mg : Str → Option Value) (base : Heap) (k : Nat) (x word : Str) (tape : Bool) : Prop where
  ex : ∃ (C CT CM fI : Addr) (z : Str) (fd : FuncData), Err K mg x C z word ∧ PySem.W.findIn K (.ref C) "__init__" = some (some (.ref fI)) ∧ PySem.W.typeIn K (.ref fI) = some (.type "function") ∧
    FnOk P w K mg base CX0 k fI fd ["self", "why"] (spInit K) ∧ Binds K fd ["self", "why"] [] ∧ XfC K C ∧
    mg "TapeError" = some (.ref CT) ∧ mg "MissingError" = some (.ref CM) ∧ PySem.W.exmOne K (.ref C) (.ref CT) = some tape ∧ (tape = false → PySem.W.exmOne K (.ref C) (.ref CM) = some true)
/-- raise X(why) -/
def tRaiseK (K : PySem.W.Frag) (mg : Str → Option Value) (word : Str) (tape : Bool) (W : WX) (ta : TA) : TS := fun _ σ H => ta σ H fun vs H1 => ∃ why, vs = [why] ∧ ∀ cls d H', Raised K mg word tape H1 cls d H' → W cls d σ H'
/-- a reading with room: what is read may be weakened -/
def tUp (ta : TA) : TA := fun σ H Q => ∃ R : List V → Hp → Prop, ta σ H R ∧ ∀ vs H1, R vs H1 → Q vs H1
theorem pa_up {X : Cx} {es : List Expr} {ta : TA} (ha : PA X es ta) : PA X es (tUp ta) := ⟨fun pos pins s σ H Q I ⟨R, h, imp⟩ => thn (ha.run pos pins s σ H R I h) fun us s1 ⟨vs, H1, I1, r, q⟩ => ⟨vs, H1, I1, r, imp vs H1 q⟩⟩
section
variable {X : Cx} {x word : Str} {tape : Bool} {k : Nat} {e : Expr} {es : List Expr} {ta : TA} {W : WX} {p pos pos2 : Pos}
theorem ps_raiseK (hc : X.calm = true) (T : ErrK X.prog X.w X.K X.mg X.base k x word tape) (hr : Room (k + 1) X.A) (tk : Takes X W) (hg : Gl X x) (ha : PA X (e :: es) ta) (hdb : (x == ("__debug__" : Str)) = false := by decide)
    (he : starEach (e :: es) X.env = (false, eval e X.env) :: starEach es X.env := by rfl) (hpl : (backTo pos (starEach es X.env)).any (·.1) = false := by rfl) :
    PS X (.Raise (some (.Call (.Name x p) (e :: es) [] pos)) none pos2) (tRaiseK X.K X.mg word tape W ta) := by
  obtain ⟨C, CT, CM, fI, z, fd, R, iC, tI, F1, hb, xf, g1, g2, m1, m2⟩ := T.ex
  have mk := pmk_oex (X := X) (CX := CX0) (p := p) (pos := pos) R.oex iC tI F1 hr hb .nil pass0 hg R.g (pa_up ha) hdb he hpl
  have rs := ps_raise (pos := pos2) hc tk mk
  refine ⟨fun pins s σ H D I h => rs.run pins s σ H D I ?_⟩
  -- from our reading to the rule's
  have imp : ∀ (vs : List V) (H1 : Hp), (∃ why, vs = [why] ∧ ∀ cls d H', Raised X.K X.mg word tape H1 cls d H' → W cls d σ H') →
      vs.length ≤ 1000 ∧ ∀ a, H1 a = none → spInit X.K (.ref a :: (vs ++ [])) (upd H1 a (exo a C none))
        (fun v H2 => v = .non ∧ ∃ (d : Addr) (fs : List (Str × V)), H2 a = some (exo a C (some d)) ∧ H2 d = some (exd d fs) ∧ H1 d = none ∧ W (.ref C) (some d) σ (upd (del H2 a) d (.xd fs))) (fun _ _ _ => False) := by
    rintro vs H1 ⟨why, rfl, q⟩
    refine ⟨(by show 1 ≤ 1000; decide), fun a ha => ⟨a, C, why, z, rfl, R.oex, R.cls, R.nmd, R.nc, R.sz, upd_same, fun dx hdx nda => ⟨rfl, dx, [("called", .str (Txt.lower z))], upd_same, ?_, ?_, ?_⟩⟩⟩
    · rw [upd_ne nda, upd_same]
    · rw [upd_ne nda] at hdx
      exact hdx
    · rw [upd_ne nda] at hdx
      refine q _ _ _ ⟨C, CT, CM, dx, rfl, rfl, hdx, ?_, xf, R.nc, g1, g2, m1, m2⟩
      funext b
      by_cases e1 : b = dx
      · rw [e1, upd_same, upd_same, R.low]
      · rw [upd_ne e1, upd_ne e1]
        by_cases e2 : b = a
        · rw [e2, del_same, ha]
        · rw [del_ne e2, upd_ne e2, upd_ne e1, upd_ne e2]
  exact ⟨_, h, imp⟩
end
end Rt

namespace Rt
open PySem PySem.Spec PyProof.Rows L2 LamX
/-! ### a def that is handed a lambda and calls it; what is raised is wished for at the slots -/
section
variable {X : Cx} {pins : List (Addr × Obj)} {σ : L2.St} {H : Hp} {s : Shared}
theorem pe_ask {CXg : CXT} {Eg : XK} {Ng : List Str} {qg : Str} {sg : Scope} {g f c' : Addr} {cdg pm ctv : Value} {params : Arguments} {body : Expr} {scope : Scope} {k i : Nat} {a : Str} {pn : List (Addr × Obj)} {xe : Value → Shared → Prop} {W : WX} {tb : XK → TE} {p1 p2 : Pos}
    (I : Inv X pins σ H s) (L : LamS X.env.scope scope) (hf : s.heap.get? f = some (PySem.W.kla_obj "<lambda>" (X.env.qual ++ "<lambda>") params body scope (cloFrom X.env.cells scope.names []) pm c' ctv)) (hfn : H f = none) (hfr : f ∉ frs X.stack)
    (hbind : bindArgs (PySem.W.kla_fn "<lambda>" (X.env.qual ++ "<lambda>") params body scope (cloFrom X.env.cells scope.names []) pm (.ref c') ctv) ⟨[], []⟩ = pure [])
    (tk : Takes ((cxOf CXg X.prog X.w X.K X.mg X.base Ng qg sg g cdg X.A X.stack s H Eg).tr pn xe) W) (hr : Room (k + 1) (X.A.deeper (envOfC qg sg s.heap.objs.size g cdg)))
    (hbody : ∀ (E : XK) (A : Around) (outer : List Env) (s : Shared) (H : Hp), Room k (A.deeper (lamEnv X scope s.heap.objs.size f c')) → PE (lamCx X A outer s H E scope f c') body (tb E))
    (hN : Ng[i]? = some a) (hv : Vis sg a) (hd : (a == ("__debug__" : Str)) = false := by decide) (hcd : (a == ("__classdict__" : Str)) = false := by decide) :
    PE ((cxOf CXg X.prog X.w X.K X.mg X.base Ng qg sg g cdg X.A X.stack s H Eg).tr pn xe) (.Call (.Name a p1) [] [] p2)
      (fun τ G Q => τ[i]? = some (some (.ref f)) ∧ G c' = some (CodeO c' (X.env.qual ++ "<lambda>")) ∧ ∃ (Ec : XK) (R : VK), (∀ cls d G', Ec cls d G' → W cls d τ G') ∧ (∀ v G', R v G' → Q v G') ∧ tb Ec σ G R) := by
  refine ⟨fun pinsZ sZ τ G Q IZ h => ?_⟩
  obtain ⟨hs, hc, Ec, R, hW, hR, ht⟩ := h
  have nm := (pe_var (X := (cxOf CXg X.prog X.w X.K X.mg X.base Ng qg sg g cdg X.A X.stack s H Eg).tr pn xe) (pos := p1) (i := i) hN hv hd hcd).run pinsZ sZ τ G (fun v H1 => v = .ref f ∧ H1 = G) IZ ⟨.ref f, hs, rfl, rfl⟩
  refine wpAny_Call_Name_kw (thn nm fun u s1 hu => ?_)
  obtain ⟨v, H1, I1, r1, ev, eH⟩ := hu
  subst ev
  rw [eH] at I1
  obtain rfl : u = Value.ref f := r1
  have un : Un (frs X.stack) [] H G s.heap s1.heap := I1.base
  have of1 := un.keep f _ hf hfn hfr (fun z => nomatch (show f ∈ ([] : List Addr) from z))
  refine PySem.W.callWith_F0 ⟨_, _, _, _, of1⟩ ?_
  obtain ⟨⟨oc, vs, t, hoc, hdc, hvc⟩, _, _⟩ := I1.hok c' _ hc
  have rc : codeAny (model X.prog X.w) (X.A.deeper (envOfC qg sg s.heap.objs.size g cdg)) (.call (.ref f) ⟨[], []⟩)
      (CR (L2.CX X.prog X.w) (envOfC qg sg s.heap.objs.size g cdg :: X.stack) X.prog X.w G s1 Q Ec) s1 := by
    refine PySem.W.kla_callFunE hr.depth of1 rfl L.co L.gen rfl ⟨c', oc, vs, t, rfl, hoc, hdc, hvc⟩ ?_
    rw [hbind]
    refine wpAny_pure (wpAny_newFunctionEnv (fun y hy => (L.own y hy).2) (fun y hy => absurd hy (by simp)) (fun h₁ hns hsb => ?_) L.kind)
    refine ⟨I1.nolimit.fresh _ hsb, ?_⟩
    show codeAny _ _ (.expr body (lamEnv X scope s1.heap.objs.size f c')) _ _
    have kp : ∀ b o, s1.heap.get? b = some o → h₁.get? b = some o := by
      intro b o e
      exact hsb.extBut b o (Nat.ne_of_lt (Heap.lt_size e)) (Heap.get?_push_of_some _ e)
    have J : Inv (lamCx X (X.A.deeper (envOfC qg sg s.heap.objs.size g cdg)) (envOfC qg sg s.heap.objs.size g cdg :: X.stack) s1 G Ec scope f c') [] σ G
        { s1 with heap := h₁, toks := s1.toks + ([] : List (Str × Value)).length } := lam_start2 I L I1.env0 hr.hd un hns kp
    refine PySem.W.kla_codeExpr (wpAny_mono ((hbody Ec _ _ s1 G (hr.deeper _)).run [] _ _ G R J ht) (fun v s' hq => ?_) fun e s' hq => hq)
    obtain ⟨w', H', J', rv, q⟩ := hq
    exact ⟨w', H', J'.os, J'.bare, J'.base, J'.hok, rv, hR _ _ q⟩
  refine wpAny_call (codeAny_mono rc fun r s' hq => ?_)
  cases r with
  | error e => exact tk e s' (XE.of_call I1 (fun cls d G' hE => hW cls d G' hE) hq)
  | ok fl =>
    cases fl with
    | ret u => exact I1.after hq
    | next => exact False.elim hq
    | brk => exact False.elim hq
    | cont => exact False.elim hq
end
/-- the def with its lambda in slot 0; TT: what it makes of the lambda's reading (tl E H Q: E what is wished of an error) -/
def Asks (X : Cx) (Ng : List Str) (x : Str) (sg : Scope) (g : Addr) (cdg : Value) (bg : List Stmt) (a : Str) (q : Str) (TT : (XK → Hp → VK → Prop) → Hp → VK → Prop) : Prop :=
  ∀ (f c' : Addr) (s : Shared) (H : Hp) (Q : VK) (tl : XK → Hp → VK → Prop),
    (∀ (W : WX) (pn : List (Addr × Obj)) (xe : Value → Shared → Prop) (p1 p2 : Pos), Takes ((cxOf C8.CX0 X.prog X.w X.K X.mg X.base Ng x sg g cdg X.A X.stack s H C8.E0).tr pn xe) W →
      PE ((cxOf C8.CX0 X.prog X.w X.K X.mg X.base Ng x sg g cdg X.A X.stack s H C8.E0).tr pn xe) (.Call (.Name a p1) [] [] p2) (fun τ G Q => τ[0]? = some (some (.ref f)) ∧ G c' = some (CodeO c' q) ∧ ∃ (Ec : XK) (R : VK), (∀ cls d G', Ec cls d G' → W cls d τ G') ∧ (∀ v G', R v G' → Q v G') ∧ tl Ec G R)) →
    H c' = some (CodeO c' q) → TT tl H Q →
    ∃ t, PSs (cxOf C8.CX0 X.prog X.w X.K X.mg X.base Ng x sg g cdg X.A X.stack s H C8.E0).nox bg t ∧ t { nx := fun _ H' => Q .non H', rt := Q } (L2.start Ng [.ref f]) H
section
variable {X : Cx}
/-- x(lambda: body) -/
theorem pe_asks {T : List (Addr × Str)} {TT : (XK → Hp → VK → Prop) → Hp → VK → Prop} {x a : Str} {g c P : Addr} {k : Nat} {pg : Arguments} {bg : List Stmt} {sg : Scope} {dV kV doc pm cdv ct oc : Value} {an od : Option Addr} {osl : Array (Option Value)} {Ng : List Str}
    {params : Arguments} {body : Expr} {scope : Scope} {t : XK → TE} {p lpos pos : Pos} (hg : Gl X x) (hm : X.mg x = some (.ref g)) (hk : PySem.W.keepIn X.K (.ref g) = true)
    (lk : X.K.lookup g = some ⟨oc, od, .func (PySem.W.fnOf x x pg bg sg dV kV doc pm an cdv ct), osl⟩) (hcg : PySem.W.codeIn X.K cdv x = true) (hb : L2.Binds X.K (PySem.W.fnOf x x pg bg sg dV kV doc pm an cdv ct) [a] []) (Sg : FnScope Ng [a] sg) (hNg : Ng[0]? = some a) (hva : Vis sg a)
    (hG : Asks X Ng x sg g cdv bg a (X.env.qual ++ "<lambda>") TT)
    (TB : TabB X.base X.mg c P) (hcode : X.env.code = .ref c) (hmT : (P, X.env.qual ++ "<lambda>") ∈ T) (hu : ∀ p ∈ T, p.1 = P → p.2 = X.env.qual ++ "<lambda>") (hr : Room (k + 2) X.A) (L : LamS X.env.scope scope) (hdef : defaultsOf params X.env = ([], []))
    (hbind : ∀ (q : Str) (cl : List (Str × Addr)) (pm cv ctv : Value), bindArgs (PySem.W.kla_fn "<lambda>" q params body scope cl pm cv ctv) ⟨[], []⟩ = pure [])
    (hbody : ∀ (E : XK) (A : Around) (outer : List Env) (s : Shared) (H : Hp) (f c' : Addr), Room k (A.deeper (lamEnv X scope s.heap.objs.size f c')) → PE (lamCx X A outer s H E scope f c') body (t E))
    (hdb : (x == ("__debug__" : Str)) = false := by decide) (hd : (a == ("__debug__" : Str)) = false := by decide) (hcd : (a == ("__classdict__" : Str)) = false := by decide) :
    PE X (.Call (.Name x p) [.Lambda params body scope lpos] [] pos) (tLam T TT t) := by
  refine ⟨fun pins s σ H Q I ⟨hT, h⟩ => ?_⟩
  refine wpAny_Call_Name_kw (ld_glob I hg hm ?_ hdb)
  refine PySem.W.callWith_K (h₀ := X.base) I.ok.mod.kin hk ?_ (by rfl) (by rfl)
  show wpAny _ _ (spliced ((false, eval (.Lambda params body scope lpos) X.env) :: backTo pos (starEach [] X.env))) _ _ s
  have made := fun (Q : Value → Shared → Prop) (E : Value → Shared → Prop) => lam_make2 (Q := Q) (E := E) (params := params) (body := body) (pos := lpos) I TB hcode hmT hu hT hdef (L.has I.ok)
  refine Calls.spliced_cons (made _ _ ?_)
  intro f c' pm' ctv H1 s' I1 eN T1 hf hfn hfr hco
  refine Calls.spliced_nil ⟨I1.kIn, ?_⟩
  have rc : codeAny (model X.prog X.w) X.A (.call (.ref g) ⟨[.ref f], []⟩) (CR C8.CX0 X.stack X.prog X.w H1 s' Q C8.E0) s' := by
    refine run_ofS (N := Ng) (ps := [a]) (us := [.ref f]) (vs := [.ref f]) lk hcg Sg hr I1.env0 (hb s' [.ref f] I1.kIn rfl) (.cons rfl .nil) rfl fun hr' => ?_
    have act := fun (W : WX) (pn : List (Addr × Obj)) (xe : Value → Shared → Prop) (p1 p2 : Pos) (tk : Takes ((cxOf C8.CX0 X.prog X.w X.K X.mg X.base Ng x sg g cdv X.A X.stack s' H1 C8.E0).tr pn xe) W) =>
      pe_ask (i := 0) (p1 := p1) (p2 := p2) (tb := t) I1 L hf hfn hfr (hbind _ _ _ _ _) tk hr' (fun E A outer s H hr2 => hbody E A outer s H f c' hr2) hNg hva hd hcd
    obtain ⟨t', ht', hq'⟩ := hG f c' s' H1 Q (fun E H' Q' => t E σ H' Q') act hco (h H1 eN T1)
    exact ⟨t', ht'.nox, hq'⟩
  refine wpAny_call (codeAny_mono rc fun r s2 hq => ?_)
  cases r with
  | error e => exact False.elim (show False from hq)
  | ok fl =>
    cases fl with
    | ret u => exact I1.after hq
    | next => exact False.elim hq
    | brk => exact False.elim hq
    | cont => exact False.elim hq
end
/-- e.f of the error that a suite holds, whatever its class -/
theorem pe_xfA {X : Cx} {a : Addr} {oe : Obj} {cls : Value} {d : Option Addr} {pn : List (Addr × Obj)} {e : Expr} {te : TE} {pos : Pos} {n : Str} (hz : Zc cls d oe) (hf : ∃ vs, oe.data = .fields vs) (he : PE (X.suite a ((a, oe) :: pn)) e te)
    (hb : attributeBase e n X.env (eval e X.env) = eval e X.env := by rfl) :
    PE (X.suite a ((a, oe) :: pn)) (.Attribute e n pos) (fun σ H Q => ∃ C, XfC X.K C ∧ PySem.W.findIn X.K (.ref C) n = some none ∧ tXf a cls d C n te σ H Q) :=
  ⟨fun pins s σ H Q I ⟨C, T, hno, h⟩ => (pe_xf T hno hz hf he hb).run pins s σ H Q I h⟩
end Rt

namespace Rt
open PySem PySem.Spec PyProof.Rows L2 LamX
/-- a def of the text that may let an error out -/
structure DefX (P : Program) (w : World) (K : PySem.W.Frag) (mg : Str → Option Value) (base : Heap) (x : Str) (k : Nat) (sp : Sp) : Prop where
  ex : ∃ (f : Addr) (fd : FuncData) (ps : List Str), mg x = some (.ref f) ∧ FnOk P w K mg base (L2.CX P w) k f fd ps sp ∧ PySem.W.keepIn K (.ref f) = true ∧ Binds K fd ps []
section
variable {X : Cx} {x : Str} {p pos : Pos} {e : Expr} {es : List Expr} {t : TA} {k : Nat} {sp : Sp} {W : WX}
theorem pe_dx (D : DefX X.prog X.w X.K X.mg X.base x k sp) (hr : Room k X.A) (hg : Gl X x) (tk : Takes X W) (ha : PA X (e :: es) t) (hdb : (x == ("__debug__" : Str)) = false := by decide)
    (he : starEach (e :: es) X.env = (false, eval e X.env) :: starEach es X.env := by rfl) (hpl : (backTo pos (starEach es X.env)).any (·.1) = false := by rfl) :
    PE X (.Call (.Name x p) (e :: es) [] pos) (tCallS sp (WE W) t) := by
  obtain ⟨f, fd, ps, h1, h2, h3, h4⟩ := D.ex
  exact pe_callS h2 hr hg h1 h3 h4 (fun σ => passAt tk σ) ha hdb he hpl
end
section
variable {P : Program} {w : World} {K : PySem.W.Frag} {mg : Str → Option Value} {base : Heap}
/-- a def whose code object is known -/
theorem okC {x qual : Str} {st : Stmt} {f c : Addr} {fd : FuncData} {N ps : List Str} {k : Nat} {sp : Sp} (F : Fun K x qual st f fd) (hcode : fd.code = .ref c) (S : FnScope N ps (defScope st)) (len : ∀ vs H Q E, sp vs H Q E → vs.length = ps.length)
    (hbody : ∀ (A : Around) (outer : List Env) (s : Shared) (H : Hp) (vs : List V) (Q : VK) (E : XK), Room k (A.deeper (envOfC qual (defScope st) s.heap.objs.size f (.ref c))) → sp vs H Q E →
      ∃ t, PSs (cxOf CX0 P w K mg base N qual (defScope st) f (.ref c) A outer s H E).nox (defBody st) t ∧ t { nx := fun _ H' => Q .non H', rt := Q } (L2.start N vs) H) : FnOk P w K mg base CX0 (k + 1) f fd ps sp := by
  obtain ⟨oc, od, kV, doc, pm, an, cdv, ct, osl, rfl, lk, hcd⟩ := F.ex
  have e : cdv = .ref c := hcode
  subst e
  refine fn_of lk hcd S len fun A outer s H vs Q E hr hsp => ?_
  obtain ⟨t, h, q⟩ := hbody A outer s H vs Q E hr hsp
  exact ⟨t, h.nox, q⟩
end
/-! ### tables of code objects -/
theorem tabs_but {T : List (Addr × Str)} {H H' : Hp} {d : Addr} {xs : List V} (t : Tabs T H) (hd : H d = some (.lst xs)) (k : ∀ b o, H b = some o → b ≠ d → H' b = some o) : Tabs T H' := by
  intro p hp
  obtain ⟨ps, h1, h2, h3⟩ := t p hp
  refine ⟨ps, k _ _ h1 (fun z => ?_), h2, fun pos cv hc => ?_⟩
  · rw [z, hd] at h1
    cases h1
  · obtain ⟨c, e1, e2⟩ := h3 pos cv hc
    refine ⟨c, e1, k _ _ e2 fun z => ?_⟩
    rw [z, hd] at e2
    unfold CodeO at e2
    cases e2
/-- nothing settled is a table -/
def NoTab (H0 : Hp) : Prop := ∀ b ps, H0 b ≠ some (.tbl ps)
theorem NoTab.upd {H0 : Hp} {p : Addr} {o : HO} (h : NoTab H0) (n : ∀ ps, o ≠ .tbl ps) : NoTab (upd H0 p o) := fun b ps z => by
  by_cases e : b = p
  · rw [e, upd_same] at z
    exact n ps (Option.some.inj z)
  · rw [upd_ne e] at z
    exact h b ps z
theorem Ex.extN {H0 H H' : Hp} (e : Ex H0 H) (n : NoTab H0) (x : ExtN H H') : Ex H0 H' := fun b o h => x b o (e b o h) fun ps z => n b ps (z ▸ h)
theorem Dr.extN {H0 H H' : Hp} {d : Addr} (x : Dr H0 H d) (e : ExtN H H') : Dr H0 H' d := by
  obtain ⟨⟨a, ns, i, j, k, l, h1, h2⟩, n⟩ := x
  exact ⟨⟨a, ns, i, j, k, l, e _ _ h1 (fun ps z => nomatch z), h2⟩, n⟩
/-- the least that a drawing needs -/
theorem Dr.least {H0 H : Hp} {d : Addr} (x : Dr H0 H d) (e : Ex H0 H) : ∃ A0 : Hp, Ex A0 H ∧ Dr A0 H d ∧ NoTab A0 := by
  obtain ⟨⟨a, ns, i, j, k, l, h1, h2, h3⟩, n⟩ := x
  refine ⟨upd (fun _ => none) a (.lst (ns.map V.int)), fun b o h => ?_, ⟨⟨a, ns, i, j, k, l, h1, upd_same, h3⟩, ?_⟩, NoTab.upd (fun b ps z => nomatch z) (fun ps z => nomatch z)⟩
  · by_cases z : b = a
    · rw [z, upd_same] at h
      cases h
      rw [z]
      exact e _ _ h2
    · rw [upd_ne z] at h
      cases h
  · have nda : d ≠ a := fun z => by
      rw [z, h2] at n
      cases n
    rw [upd_ne nda]
theorem Dr.lst {H0 H : Hp} {d : Addr} (x : Dr H0 H d) : ∃ xs, H d = some (.lst xs) := by
  obtain ⟨⟨a, ns, i, j, k, l, h1, _⟩, _⟩ := x
  exact ⟨_, h1⟩
/-- across a drawing step -/
theorem tabs_go {T : List (Addr × Str)} {H0 H H0' H' : Hp} {d : Addr} (t : Tabs T H) (x : Dr H0 H d) (g : Go (· = d) H0 H H0' H') : Tabs T H' := by
  obtain ⟨xs, hd⟩ := x.lst
  exact tabs_but t hd fun b o h n => g.keep b o h n
theorem tabs_new {T : List (Addr × Str)} {H : Hp} {p : Addr} {o : HO} (t : Tabs T H) (h : H p = none) : Tabs T (upd H p o) := t.ext fun b u e => by
  rw [upd_ne (ne_of_none e h)]
  exact e
end Rt

namespace Rt
open PySem PySem.Spec PyProof.Rows L2 LamX
/-- all that is read off the written part of an error's class -/
structure ErrF (K : PySem.W.Frag) (x z word : Str) (C CT CM fI : Addr) (tape : Bool) : Prop where
  g : PySem.W.nsIn K mainGlobals x = some (some (.ref C))
  gT : PySem.W.nsIn K mainGlobals "TapeError" = some (some (.ref CT))
  gM : PySem.W.nsIn K mainGlobals "MissingError" = some (some (.ref CM))
  cls : ∃ nm q N bs bm sn sub ab col dd k0 k1 k2 k3 k5, K.lookup C = some (excClassObj nm q C N bs bm true sn sub ab col dd k0 k1 k2 k3 k5 "ValueError.__new__") ∧ PySem.HandSPX.refsVE bm = true
  nm : ∃ o tk, K.lookup C = some o ∧ (o.slots[2]?).join = some (.str z tk)
  sa : PySem.W.findIn K (.ref C) "__setattr__" = some (some (.builtin "object.__setattr__"))
  exC : PySem.W.subIn K (.ref C) (.type "BaseException") = some true
  tyC : PySem.W.typeIn K (.ref C) = some (.type "type")
  kC : PySem.W.keepIn K (.ref C) = true
  ga : PySem.W.findIn K (.ref C) "__getattribute__" = some (some (.builtin "BaseException.__getattribute__"))
  gg : PySem.W.findIn K (.ref C) "__getattr__" = some none
  hd : PySem.W.hasDictIn K C = true
  ca : PySem.W.findIn K (.ref C) "__class__" = some (some (.builtin "object.__class__"))
  cg : PySem.W.specialIn K (.builtin "object.__class__") "__get__" = some (some (.builtin "getset_descriptor.__get__"))
  ct : PySem.W.takesIn K (.builtin "object.__class__") = some true
  mo : PySem.W.mroIn K C (.type "object") = some true
  rd : PySem.W.readsIn K C (.type "type") = true
  fc : PySem.W.findCls K (.ref C) (.type "type") "__name__" = some (.get (.builtin "getset_descriptor.__get__") (.builtin "type.__name__") (.ref C) (.type "type"))
  nc : PySem.W.findIn K (.ref C) "called" = some none
  iC : PySem.W.findIn K (.ref C) "__init__" = some (some (.ref fI))
  tI : PySem.W.typeIn K (.ref fI) = some (.type "function")
  t1 : PySem.W.subIn K (.ref CT) (.type "BaseException") = some true
  t2 : PySem.W.hasDictIn K CT = true
  t3 : PySem.W.typeIn K (.ref CT) = some (.type "type")
  t4 : PySem.W.subIn K (.ref C) (.ref CT) = some tape
  u1 : PySem.W.subIn K (.ref CM) (.type "BaseException") = some true
  u2 : PySem.W.hasDictIn K CM = true
  u3 : PySem.W.typeIn K (.ref CM) = some (.type "type")
  u4 : PySem.W.subIn K (.ref C) (.ref CM) = some (!tape)
  low : Txt.lower z = word
  sz : z.length ≤ 1000
theorem errF_of {K : PySem.W.Frag} {x z word : Str} {C CT CM fI : Addr} {tape : Bool} {nm q : Str} {N : Addr} {bs bm : List Value} {sn : List Str} {sub : List Value} {ab : Bool} {col : Option Bool} {dd : Option Addr} {k0 k1 k2 k3 k5 : Option Value} {o : Obj} {tk : Tok}
    (g : PySem.W.nsIn K mainGlobals x = some (some (.ref C)))
    (gT : PySem.W.nsIn K mainGlobals "TapeError" = some (some (.ref CT)))
    (gM : PySem.W.nsIn K mainGlobals "MissingError" = some (some (.ref CM)))
    (cls1 : K.lookup C = some (excClassObj nm q C N bs bm true sn sub ab col dd k0 k1 k2 k3 k5 "ValueError.__new__")) (cls2 : PySem.HandSPX.refsVE bm = true)
    (nm1 : K.lookup C = some o) (nm2 : (o.slots[2]?).join = some (.str z tk))
    (sa : PySem.W.findIn K (.ref C) "__setattr__" = some (some (.builtin "object.__setattr__")))
    (exC : PySem.W.subIn K (.ref C) (.type "BaseException") = some true)
    (tyC : PySem.W.typeIn K (.ref C) = some (.type "type"))
    (kC : PySem.W.keepIn K (.ref C) = true)
    (ga : PySem.W.findIn K (.ref C) "__getattribute__" = some (some (.builtin "BaseException.__getattribute__")))
    (gg : PySem.W.findIn K (.ref C) "__getattr__" = some none)
    (hd : PySem.W.hasDictIn K C = true)
    (ca : PySem.W.findIn K (.ref C) "__class__" = some (some (.builtin "object.__class__")))
    (cg : PySem.W.specialIn K (.builtin "object.__class__") "__get__" = some (some (.builtin "getset_descriptor.__get__")))
    (ct : PySem.W.takesIn K (.builtin "object.__class__") = some true)
    (mo : PySem.W.mroIn K C (.type "object") = some true)
    (rd : PySem.W.readsIn K C (.type "type") = true)
    (fc : PySem.W.findCls K (.ref C) (.type "type") "__name__" = some (.get (.builtin "getset_descriptor.__get__") (.builtin "type.__name__") (.ref C) (.type "type")))
    (nc : PySem.W.findIn K (.ref C) "called" = some none)
    (iC : PySem.W.findIn K (.ref C) "__init__" = some (some (.ref fI)))
    (tI : PySem.W.typeIn K (.ref fI) = some (.type "function"))
    (t1 : PySem.W.subIn K (.ref CT) (.type "BaseException") = some true)
    (t2 : PySem.W.hasDictIn K CT = true)
    (t3 : PySem.W.typeIn K (.ref CT) = some (.type "type"))
    (t4 : PySem.W.subIn K (.ref C) (.ref CT) = some tape)
    (u1 : PySem.W.subIn K (.ref CM) (.type "BaseException") = some true)
    (u2 : PySem.W.hasDictIn K CM = true)
    (u3 : PySem.W.typeIn K (.ref CM) = some (.type "type"))
    (u4 : PySem.W.subIn K (.ref C) (.ref CM) = some (!tape))
    (low : Txt.lower z = word)
    (sz : z.length ≤ 1000) : ErrF K x z word C CT CM fI tape := ⟨g, gT, gM, ⟨nm, q, N, bs, bm, sn, sub, ab, col, dd, k0, k1, k2, k3, k5, cls1, cls2⟩, ⟨o, tk, nm1, nm2⟩, sa, exC, tyC, kC, ga, gg, hd, ca, cg, ct, mo, rd, fc, nc, iC, tI, t1, t2, t3, t4, u1, u2, u3, u4, low, sz⟩
section
variable {P : Program} {w : World} {K : PySem.W.Frag} {mg : Str → Option Value} {base h : Heap} {x z word : Str} {C CT CM fI : Addr} {tape : Bool} {k : Nat} {fd : FuncData}
theorem ErrF.xf (F : ErrF K x z word C CT CM fI tape) : XfC K C := ⟨F.ga, F.gg, F.exC, F.hd⟩
theorem ErrF.err (F : ErrF K x z word C CT CM fI tape) (X : K.In h) (G : h.Ns mainGlobals mg) : Err K mg x C z word where
  g := PySem.W.mg_of X G F.g
  oex := ⟨F.cls, F.sa, F.exC, F.tyC, F.kC⟩
  cls := ⟨F.ga, F.gg, F.exC, F.hd, F.ca, F.cg, F.ct, F.mo⟩
  nmd := ⟨F.rd, F.fc, F.tyC, F.nm⟩
  nc := F.nc
  low := F.low
  sz := F.sz
theorem err_mk (F : ErrF K x z word C CT CM fI tape) (X : K.In h) (G : h.Ns mainGlobals mg) (ok : FnOk P w K mg base CX0 k fI fd ["self", "why"] (spInit K)) (b : Binds K fd ["self", "why"] []) : ErrK P w K mg base k x word tape :=
  ⟨C, CT, CM, fI, z, fd, F.err X G, F.iC, F.tI, ok, b, F.xf, PySem.W.mg_of X G F.gT, PySem.W.mg_of X G F.gM, PySem.W.exm_ref F.t1 F.t2 F.t3 F.t4, fun e => PySem.W.exm_ref F.u1 F.u2 F.u3 (by rw [F.u4, e]; rfl)⟩
end
/-- the end of a law whose def (and whose defs named in xs) hold lambdas -/
theorem walkT {l : PySem.W.OpenLaw} {n k : Nat} {q : Program} {loose : List Str} {XP : (Str → Option Value) → Heap → Prop} {YP : World → Heap → Prop} {d : DefRec} {K : Params → PySem.W.Frag} {CX : World → CXT} {x : Str}
    (hn : l.most = some n) (hn2 : n ≤ sizeLine) (hdf : d.params.defaults = []) (hr : Room k callerA) (hY : ∀ (w : World) (h : Heap), YP w h → (K w.params).In h)
    (F : ∀ (w : World) (mg : Str → Option Value) (fa : Addr) (h : Heap), (K w.params).In h → h.Ns mainGlobals mg → mg d.name = some (.ref fa) →
      (∀ (y : Str) (e : DefRec) (c t : Addr), (recsOf q).find? (fun r => r.name == y) = some e → PySem.W.tabIn (K w.params) y = some (c, t) → PySem.W.CodeHd h c t ∧ h.get? t = some { cls := .none, data := .fields #[] }) → LawAtS l w (K w.params) (CX w) k n x mg fa h)
    (hCX : ∀ (w : World) (H : Hp) (s : Shared) (e : Value) (s' : Shared), CX w [] H s (fun _ _ _ => False) e s' → False) :
    PySem.W.WalkO q loose XP YP l.row.toRowW d [] (fun f vs => PySem.call f vs) := by
  refine Att.attach_callB hn hdf fun w s₀ s₁ mg mb fa o pm cd doc a vs ns G Y ho hd hcd hmg hobj hints hlen hbits hg => ?_
  have KX := hY w _ Y
  obtain ⟨fd, cs, sp, hT, nT, C, hb, hsp, hF⟩ := F w mg fa _ KX G.T.g hmg fun y e c t h1 h2 => PySem.W.tab_of G.T KX h1 h2
  exact law_callTs KX G.T.g G.T.b G.T.builtins G.T.nolimit hg hT nT C G.T.bmain hobj hints (Nat.le_trans hlen hn2) hr hF hb (fun H hH hS => hsp H a ns hlen hbits hH hS) fun H e s' => hCX w H s₁ e s'
end Rt

namespace Rt
open PySem PySem.Spec PyProof.Rows L2 LamX
/-! ### a function read off a class of the program and called: C.m(self, ..) -/
/-- m of the class that x names is the function at f -/
structure Off (K : PySem.W.Frag) (mg : Str → Option Value) (x m : Str) (f : Addr) : Prop where
  ex : ∃ C : Addr, mg x = some (.ref C) ∧ PySem.W.specialIn K (.ref C) "__getattribute__" = some (some (.builtin "type.__getattribute__")) ∧ PySem.W.readsIn K C (.type "type") = true ∧ PySem.W.findCls K (.ref C) (.type "type") m = some (.val (.ref f))
section
variable {X : Cx} {x m : Str} {f : Addr} {fd : FuncData} {ps : List Str} {p1 p2 pos : Pos} {e : Expr} {es : List Expr} {t : TA} {k : Nat} {sp : Sp} {pl : Sem Bool}
theorem pe_off (O : Off X.K X.mg x m f) (F : FnOk X.prog X.w X.K X.mg X.base CX0 k f fd ps sp) (hr : Room k X.A) (hg : Gl X x) (hk : PySem.W.keepIn X.K (.ref f) = true) (hb : Binds X.K fd ps []) (ha : PA X (e :: es) t)
    (hc : eval (.Call (.Attribute (.Name x p1) m p2) (e :: es) [] pos) X.env = (do
      let ov ← eval (.Name x p1) X.env
      standAt p2.atName
      let (f, first) ← holding [ov] (getMethod ov m pl)
      callWith pos f first (backTo pos (starEach (e :: es) X.env)) (backToKw pos (keywordEach [] X.env))) := by rfl)
    (hdb : (x == ("__debug__" : Str)) = false := by decide) (he : starEach (e :: es) X.env = (false, eval e X.env) :: starEach es X.env := by rfl) (hpl : (backTo pos (starEach es X.env)).any (·.1) = false := by rfl) :
    PE X (.Call (.Attribute (.Name x p1) m p2) (e :: es) [] pos) (tCall sp [] E0 t) := by
  obtain ⟨C, hm, sG, rd, fc⟩ := O.ex
  refine ⟨fun pins s σ H Q I h => ?_⟩
  refine PySem.W.methodCall_KW (ld_glob I hg hm ?_ hdb) hc
  refine PySem.W.method_cls I.kIn sG (PySem.W.cls_value I.kIn rd fc rfl ?_)
  refine PySem.W.callWith_K (h₀ := X.base) I.ok.mod.kin hk (thn (ha.run pos pins _ σ H _ (I.tok _) h) fun us s1 ⟨vs, H1, I1, r, q⟩ => ⟨I1.kIn, ?_⟩) he hpl
  exact run_fn F hr hb .nil pass0 I1 r q
end
/-! ### BadBytes: an error with its place -/
/-- BadBytes.__init__ -/
def spInitAt (K : PySem.W.Frag) : Sp := fun vs H Q _ => ∃ (a C : Addr) (n : Int) (z : Str), vs = [.ref a, .int n] ∧ n.natAbs < 10 ^ 20 ∧ OexC K C ∧ ClsE K C ∧ Nmd K C z ∧ PySem.W.findIn K (.ref C) "called" = some none ∧ PySem.W.findIn K (.ref C) "at" = some none ∧ z.length ≤ 1000 ∧ H a = some (exo a C none) ∧
  ∀ dx, H dx = none → dx ≠ a → Q .non (upd (upd (upd H dx (exd dx [("called", .str (Txt.lower z))])) a (exo a C (some dx))) dx (exd dx [("at", .int n), ("called", .str (Txt.lower z))]))
/-- BadBytes in flight, its place n -/
structure RaisedA (K : PySem.W.Frag) (mg : Str → Option Value) (n : Int) (H : Hp) (cls : Value) (d : Option Addr) (H' : Hp) : Prop where
  ex : ∃ (C dd : Addr), mg "BadBytes" = some (.ref C) ∧ cls = .ref C ∧ d = some dd ∧ H dd = none ∧ H' = upd H dd (.xd [("at", .int n), ("called", .str "badbytes")]) ∧ XfC K C ∧ PySem.W.findIn K (.ref C) "called" = some none ∧ PySem.W.findIn K (.ref C) "at" = some none
structure ErrA (P : Program) (w : World) (K : PySem.W.Frag) (mg : Str → Option Value) (base : Heap) (k : Nat) : Prop where
  ex : ∃ (C fI : Addr) (z : Str) (fd : FuncData), Err K mg "BadBytes" C z "badbytes" ∧ PySem.W.findIn K (.ref C) "__init__" = some (some (.ref fI)) ∧ PySem.W.typeIn K (.ref fI) = some (.type "function") ∧
    FnOk P w K mg base CX0 k fI fd ["self", "at"] (spInitAt K) ∧ Binds K fd ["self", "at"] [] ∧ XfC K C ∧ PySem.W.findIn K (.ref C) "at" = some none
def tRaiseA (K : PySem.W.Frag) (mg : Str → Option Value) (W : WX) (ta : TA) : TS := fun _ σ H => ta σ H fun vs H1 => ∃ n : Int, vs = [.int n] ∧ n.natAbs < 10 ^ 20 ∧ ∀ cls d H', RaisedA K mg n H1 cls d H' → W cls d σ H'
section
variable {X : Cx} {k : Nat} {e : Expr} {es : List Expr} {ta : TA} {W : WX} {p pos pos2 : Pos}
theorem ps_raiseA (hc : X.calm = true) (T : ErrA X.prog X.w X.K X.mg X.base k) (hr : Room (k + 1) X.A) (tk : Takes X W) (hg : Gl X "BadBytes") (ha : PA X (e :: es) ta)
    (he : starEach (e :: es) X.env = (false, eval e X.env) :: starEach es X.env := by rfl) (hpl : (backTo pos (starEach es X.env)).any (·.1) = false := by rfl) :
    PS X (.Raise (some (.Call (.Name "BadBytes" p) (e :: es) [] pos)) none pos2) (tRaiseA X.K X.mg W ta) := by
  obtain ⟨C, fI, z, fd, R, iC, tI, F1, hb, xf, na⟩ := T.ex
  have mk := pmk_oex (X := X) (CX := CX0) (p := p) (pos := pos) R.oex iC tI F1 hr hb .nil pass0 hg R.g (pa_up ha) (by decide) he hpl
  have rs := ps_raise (pos := pos2) hc tk mk
  refine ⟨fun pins s σ H D I h => rs.run pins s σ H D I ?_⟩
  have imp : ∀ (vs : List V) (H1 : Hp), (∃ n : Int, vs = [.int n] ∧ n.natAbs < 10 ^ 20 ∧ ∀ cls d H', RaisedA X.K X.mg n H1 cls d H' → W cls d σ H') →
      vs.length ≤ 1000 ∧ ∀ a, H1 a = none → spInitAt X.K (.ref a :: (vs ++ [])) (upd H1 a (exo a C none))
        (fun v H2 => v = .non ∧ ∃ (d : Addr) (fs : List (Str × V)), H2 a = some (exo a C (some d)) ∧ H2 d = some (exd d fs) ∧ H1 d = none ∧ W (.ref C) (some d) σ (upd (del H2 a) d (.xd fs))) (fun _ _ _ => False) := by
    rintro vs H1 ⟨n, rfl, hn, q⟩
    refine ⟨(by show 1 ≤ 1000; decide), fun a ha => ⟨a, C, n, z, rfl, hn, R.oex, R.cls, R.nmd, R.nc, na, R.sz, upd_same, fun dx hdx nda => ⟨rfl, dx, [("at", .int n), ("called", .str (Txt.lower z))], ?_, upd_same, ?_, ?_⟩⟩⟩
    · rw [upd_ne nda.symm, upd_same]
    · rw [upd_ne nda] at hdx
      exact hdx
    · rw [upd_ne nda] at hdx
      refine q _ _ _ ⟨C, dx, R.g, rfl, rfl, hdx, ?_, xf, R.nc, na⟩
      funext b
      by_cases e1 : b = dx
      · rw [e1, upd_same, upd_same, R.low]
      · rw [upd_ne e1, upd_ne e1]
        by_cases e2 : b = a
        · rw [e2, del_same, ha]
        · rw [del_ne e2, upd_ne e1, upd_ne e2, upd_ne e1, upd_ne e2]
  exact ⟨_, h, imp⟩
end
/-- a def that may let an error out, called with fewer values than it has parameters -/
structure DefXd (P : Program) (w : World) (K : PySem.W.Frag) (mg : Str → Option Value) (base : Heap) (x : Str) (k : Nat) (sp : Sp) (dvs : List V) : Prop where
  ex : ∃ (f : Addr) (fd : FuncData) (ps : List Str) (ds : List Value), mg x = some (.ref f) ∧ FnOk P w K mg base (L2.CX P w) k f fd ps sp ∧ PySem.W.keepIn K (.ref f) = true ∧ Binds K fd ps ds ∧ Vals dvs ds
section
variable {X : Cx} {x : Str} {p pos : Pos} {e : Expr} {es : List Expr} {t : TA} {k : Nat} {sp : Sp} {W : WX} {dvs : List V}
theorem pe_dxd (D : DefXd X.prog X.w X.K X.mg X.base x k sp dvs) (hr : Room k X.A) (hg : Gl X x) (tk : Takes X W) (ha : PA X (e :: es) t) (hdb : (x == ("__debug__" : Str)) = false := by decide)
    (he : starEach (e :: es) X.env = (false, eval e X.env) :: starEach es X.env := by rfl) (hpl : (backTo pos (starEach es X.env)).any (·.1) = false := by rfl) :
    PE X (.Call (.Name x p) (e :: es) [] pos) (tCallSD sp dvs (WE W) t) := by
  obtain ⟨f, fd, ps, ds, h1, h2, h3, h4, h5⟩ := D.ex
  exact pe_callSD h2 hr hg h1 h3 h4 h5 (fun σ => passAt tk σ) ha hdb he hpl
end
/-- a reading with room -/
def tUpE (te : TE) : TE := fun σ H Q => ∃ R : V → Hp → Prop, te σ H R ∧ ∀ v H1, R v H1 → Q v H1
theorem pe_up {X : Cx} {e : Expr} {te : TE} (h : PE X e te) : PE X e (tUpE te) := ⟨fun pins s σ H Q I ⟨R, h', imp⟩ => thn (h.run pins s σ H R I h') fun u s1 ⟨v, H1, I1, r, q⟩ => ⟨v, H1, I1, r, imp v H1 q⟩⟩
/-! ### lists of numbers as data -/
theorem dp_nums {K : PySem.W.Frag} {H : Hp} : ∀ l : List Nat, DpAll K H (nums l) (l.map fun (n : Nat) => PyData.int (n : Int))
  | [] => .nil
  | n :: l => .cons (.int _) (dp_nums l)
theorem depth_ints : ∀ l : List Nat, PyData.depthAll (l.map fun (n : Nat) => PyData.int (n : Int)) = 0
  | [] => rfl
  | n :: l => by
    show max 0 (PyData.depthAll (l.map fun (n : Nat) => PyData.int (n : Int))) = 0
    rw [depth_ints l]
    rfl
theorem sm_ints : ∀ l : List Nat, smAll (l.map fun (n : Nat) => PyData.int (n : Int))
  | [] => True.intro
  | n :: l => ⟨True.intro, sm_ints l⟩
def numsD (l : List Nat) : PyData := .list (l.map fun (n : Nat) => PyData.int (n : Int))
theorem numsD_shaped (l : List Nat) : SeqAt.shaped (numsD l) = true := by
  have h := PySem.W.ke_shaped_ints (l.map fun (n : Nat) => (n : Int))
  rw [List.map_map] at h
  exact h
theorem numsD_eq (l : List Nat) : PyData.eqv (numsD l) (numsD l) = true := SeqAt.eqv_refl _ (SeqAt.canLay_of_shaped (numsD_shaped l))
/-- what is settled, without the tables -/
def clean (H0 : Hp) : Hp := fun b => match H0 b with
  | some (.tbl _) => none
  | o => o
theorem clean_at {H0 : Hp} {p : Addr} {o : HO} (h : H0 p = some o) (n : ∀ ps, o ≠ .tbl ps) : clean H0 p = some o := by
  unfold clean
  rw [h]
  split
  · rename_i ps e
    exact absurd (Option.some.inj e) (n ps)
  · rfl
theorem clean_le {H0 : Hp} {p : Addr} {o : HO} (h : clean H0 p = some o) : H0 p = some o := by
  unfold clean at h
  split at h
  · cases h
  · exact h
theorem clean_no (H0 : Hp) : NoTab (clean H0) := fun b ps z => by
  have h := clean_le z
  unfold clean at z
  rw [h] at z
  cases z
theorem clean_ex {H0 H : Hp} (e : Ex H0 H) : Ex (clean H0) H := fun b o h => e b o (clean_le h)
theorem clean_dr {H0 H : Hp} {d : Addr} (x : Dr H0 H d) : Dr (clean H0) H d := by
  obtain ⟨⟨a, ns, i, j, k, l, h1, h2, h3⟩, n⟩ := x
  refine ⟨⟨a, ns, i, j, k, l, h1, clean_at h2 (fun ps z => nomatch z), h3⟩, ?_⟩
  cases e : clean H0 d with
  | none => rfl
  | some o =>
    have := clean_le e
    rw [n] at this
    cases this
/-- all that is read off an error's class, whatever else it is under -/
structure ErrG (K : PySem.W.Frag) (x z word : Str) (C fI : Addr) : Prop where
  g : PySem.W.nsIn K mainGlobals x = some (some (.ref C))
  cls : ∃ nm q N bs bm sn sub ab col dd k0 k1 k2 k3 k5, K.lookup C = some (excClassObj nm q C N bs bm true sn sub ab col dd k0 k1 k2 k3 k5 "ValueError.__new__") ∧ PySem.HandSPX.refsVE bm = true
  nm : ∃ o tk, K.lookup C = some o ∧ (o.slots[2]?).join = some (.str z tk)
  sa : PySem.W.findIn K (.ref C) "__setattr__" = some (some (.builtin "object.__setattr__"))
  exC : PySem.W.subIn K (.ref C) (.type "BaseException") = some true
  tyC : PySem.W.typeIn K (.ref C) = some (.type "type")
  kC : PySem.W.keepIn K (.ref C) = true
  ga : PySem.W.findIn K (.ref C) "__getattribute__" = some (some (.builtin "BaseException.__getattribute__"))
  gg : PySem.W.findIn K (.ref C) "__getattr__" = some none
  hd : PySem.W.hasDictIn K C = true
  ca : PySem.W.findIn K (.ref C) "__class__" = some (some (.builtin "object.__class__"))
  cg : PySem.W.specialIn K (.builtin "object.__class__") "__get__" = some (some (.builtin "getset_descriptor.__get__"))
  ct : PySem.W.takesIn K (.builtin "object.__class__") = some true
  mo : PySem.W.mroIn K C (.type "object") = some true
  rd : PySem.W.readsIn K C (.type "type") = true
  fc : PySem.W.findCls K (.ref C) (.type "type") "__name__" = some (.get (.builtin "getset_descriptor.__get__") (.builtin "type.__name__") (.ref C) (.type "type"))
  nc : PySem.W.findIn K (.ref C) "called" = some none
  iC : PySem.W.findIn K (.ref C) "__init__" = some (some (.ref fI))
  tI : PySem.W.typeIn K (.ref fI) = some (.type "function")
  se : PySem.W.subIn K (.ref C) (.ref C) = some true
  low : Txt.lower z = word
  sz : z.length ≤ 1000
theorem errG_of {K : PySem.W.Frag} {x z word : Str} {C fI : Addr} {nm q : Str} {N : Addr} {bs bm : List Value} {sn : List Str} {sub : List Value} {ab : Bool} {col : Option Bool} {dd : Option Addr} {k0 k1 k2 k3 k5 : Option Value} {o : Obj} {tk : Tok}
    (g : PySem.W.nsIn K mainGlobals x = some (some (.ref C)))
    (cls1 : K.lookup C = some (excClassObj nm q C N bs bm true sn sub ab col dd k0 k1 k2 k3 k5 "ValueError.__new__")) (cls2 : PySem.HandSPX.refsVE bm = true)
    (nm1 : K.lookup C = some o) (nm2 : (o.slots[2]?).join = some (.str z tk))
    (sa : PySem.W.findIn K (.ref C) "__setattr__" = some (some (.builtin "object.__setattr__")))
    (exC : PySem.W.subIn K (.ref C) (.type "BaseException") = some true)
    (tyC : PySem.W.typeIn K (.ref C) = some (.type "type"))
    (kC : PySem.W.keepIn K (.ref C) = true)
    (ga : PySem.W.findIn K (.ref C) "__getattribute__" = some (some (.builtin "BaseException.__getattribute__")))
    (gg : PySem.W.findIn K (.ref C) "__getattr__" = some none)
    (hd : PySem.W.hasDictIn K C = true)
    (ca : PySem.W.findIn K (.ref C) "__class__" = some (some (.builtin "object.__class__")))
    (cg : PySem.W.specialIn K (.builtin "object.__class__") "__get__" = some (some (.builtin "getset_descriptor.__get__")))
    (ct : PySem.W.takesIn K (.builtin "object.__class__") = some true)
    (mo : PySem.W.mroIn K C (.type "object") = some true)
    (rd : PySem.W.readsIn K C (.type "type") = true)
    (fc : PySem.W.findCls K (.ref C) (.type "type") "__name__" = some (.get (.builtin "getset_descriptor.__get__") (.builtin "type.__name__") (.ref C) (.type "type")))
    (nc : PySem.W.findIn K (.ref C) "called" = some none)
    (iC : PySem.W.findIn K (.ref C) "__init__" = some (some (.ref fI)))
    (tI : PySem.W.typeIn K (.ref fI) = some (.type "function"))
    (se : PySem.W.subIn K (.ref C) (.ref C) = some true)
    (low : Txt.lower z = word)
    (sz : z.length ≤ 1000) : ErrG K x z word C fI := ⟨g, ⟨nm, q, N, bs, bm, sn, sub, ab, col, dd, k0, k1, k2, k3, k5, cls1, cls2⟩, ⟨o, tk, nm1, nm2⟩, sa, exC, tyC, kC, ga, gg, hd, ca, cg, ct, mo, rd, fc, nc, iC, tI, se, low, sz⟩
section
variable {P : Program} {w : World} {K : PySem.W.Frag} {mg : Str → Option Value} {base h : Heap} {x z word : Str} {C fI CT : Addr} {k : Nat} {fd : FuncData}
theorem ErrG.xf (F : ErrG K x z word C fI) : XfC K C := ⟨F.ga, F.gg, F.exC, F.hd⟩
theorem ErrG.err (F : ErrG K x z word C fI) (X : K.In h) (G : h.Ns mainGlobals mg) : Err K mg x C z word where
  g := PySem.W.mg_of X G F.g
  oex := ⟨F.cls, F.sa, F.exC, F.tyC, F.kC⟩
  cls := ⟨F.ga, F.gg, F.exC, F.hd, F.ca, F.cg, F.ct, F.mo⟩
  nmd := ⟨F.rd, F.fc, F.tyC, F.nm⟩
  nc := F.nc
  low := F.low
  sz := F.sz
theorem ErrG.self (F : ErrG K x z word C fI) : PySem.W.exmOne K (.ref C) (.ref C) = some true := PySem.W.exm_ref F.exC F.hd F.tyC F.se
theorem errA_mk (F : ErrG K "BadBytes" z "badbytes" C fI) (na : PySem.W.findIn K (.ref C) "at" = some none) (X : K.In h) (G : h.Ns mainGlobals mg) (ok : FnOk P w K mg base CX0 k fI fd ["self", "at"] (spInitAt K)) (b : Binds K fd ["self", "at"] []) : ErrA P w K mg base k :=
  ⟨C, fI, z, fd, F.err X G, F.iC, F.tI, ok, b, F.xf, na⟩
end
end Rt

namespace Rt
open PySem PySem.Spec PyProof.Rows L2
def topS (i : Nat) : Stmt := PySem.Challenge.pw_reedtapes_k02_gaps_read_or_refused.main.body.getD i (.Pass ⟨0, 0, 0, 0⟩)
section
variable {P : Program} {w : World} {K : PySem.W.Frag} {mg : Str → Option Value} {base : Heap}
abbrev s_begin : Stmt := topS 8
theorem sc_begin : FnScope ["_law_script"] ["_law_script"] (defScope s_begin) := ⟨rfl, rfl, rfl, by decide +kernel, rfl, by decide +kernel, by decide +kernel⟩
def spBegin (K : PySem.W.Frag) : Sp := fun vs H Q _ => ∃ (a : Addr) (ns : List Int) (H0 : Hp), vs = [.ref a] ∧ SqL K H a (ns.map V.int) ∧ Ex H0 H ∧
  ∀ (d : Addr) (H0' H' : Hp), Go (fun _ => False) H0 H H0' H' → Dr H0' H' d → H d = none → Q (.ref d) H'
theorem ok_begin {f : Addr} {fd : FuncData} (F : Fun K "_law_begin" "_law_begin" s_begin f fd) (m_list : mg "list" = none) : FnOk P w K mg base CX0 1 f fd ["_law_script"] (spBegin K) := by
  refine F.ok sc_begin (fun vs H Q E h => ?_) (fun cdv A outer s H vs Q E hr h => ?_)
  · obtain ⟨a, ns, H0, rfl, _⟩ := h
    rfl
  · obtain ⟨a, ns, H0, rfl, hS, e0, q⟩ := h
    refine ⟨_, (pss_one (ps_ret (pe_lst (pa_cons (pe_callTy call_list_of (by rfl) m_list bt_list (pa_cons (pe_slice sl_list (pv 0) po_none (po_some pe_int)) pa_nil)) (pa_cons pe_int (pa_cons pe_int (pa_cons pe_int (pa_cons pe_int pa_nil)))))))), ?_⟩
    obtain ⟨ms, hms⟩ : ∃ ms : List Int, cutV (ns.map V.int) none (some 63) = ms.map V.int := ⟨_, by unfold cutV; rw [← List.map_drop, ← List.map_take]⟩
    refine ⟨.ref a, rfl, 63, rfl, a, _, rfl, hS, fun c hc => ?_⟩
    refine ⟨c, _, rfl, .inl (SqL.of upd_same), fun l hl => ?_⟩
    rw [hms] at hl ⊢
    refine ⟨(by show 5 ≤ sizeLine; decide), fun d hd => ?_⟩
    have g0 := Go.refl (m := fun _ => False) e0
    have g1 := g0.lay (.lst (ms.map V.int)) hc
    have g2 := g1.put (.lst (ms.map V.int)) hl
    have g3 := g2.lay (.lst [.ref l, .int 0, .int 0, .int 1, .int 0]) hd
    have nH : H d = none := g2.fresh hd
    exact q d _ _ g3 ⟨⟨l, ms, 0, 0, 1, 0, upd_same, upd_same, by decide, by decide, by decide, by decide⟩, g2.fresh0 hd⟩ nH
abbrev s_pick : Stmt := topS 9
theorem sc_pick : FnScope ["_law_draw", "_law_many", "_law_cell", "_law_got"] ["_law_draw", "_law_many"] (defScope s_pick) := ⟨rfl, rfl, rfl, by decide +kernel, rfl, by decide +kernel, by decide +kernel⟩
def spPick : Sp := fun vs H Q _ => ∃ (d : Addr) (m : Int) (H0 : Hp), vs = [.ref d, .int m] ∧ 0 < m ∧ m ≤ 1000000000 ∧ Ex H0 H ∧ Dr H0 H d ∧
  ∀ (r : Int) (H' : Hp), 0 ≤ r → r < m → Go (· = d) H0 H H0 H' → Dr H0 H' d → Q (.int r) H'
theorem ok_pick {f : Addr} {fd : FuncData} (F : Fun K "_law_pick" "_law_pick" s_pick f fd) (m_len : mg "len" = none) : FnOk P w K mg base CX0 1 f fd ["_law_draw", "_law_many"] spPick := by
  refine F.ok sc_pick (fun vs H Q E h => ?_) (fun cdv A outer s H vs Q E hr h => ?_)
  · obtain ⟨d, m, H0, rfl, _⟩ := h
    rfl
  · obtain ⟨d, m, H0, rfl, m0, m1, e0, ⟨⟨a, ns, i, j, k, l, hd, ha, hi, hj, hk0, hk⟩, out⟩, q⟩ := h
    refine ⟨_, (C8.pss_cut (ps_if (PW.pt (pw_and (pt_cmpR op_lt (pe_ix ix_list (pv 0) pe_int (fun _ _ => rfl)) (pv 1) (nomark _)) (pw_and1 (pt_cmpR op_lt (pe_ix ix_list (pv 0) pe_int (fun _ _ => rfl)) (pe_callB call_len_seq (by rfl) m_len PySem.boot_len (pa_cons (pe_ix ix_list (pv 0) pe_int (fun _ _ => rfl)) pa_nil)) (nomark _))))) (pss_cons (ps_set (i := 2) sc_pick.nd rfl (Or.inl rfl) (pe_ix ix_list (pe_ix ix_list (pv 0) pe_int (fun _ _ => rfl)) (pe_ix ix_list (pv 0) pe_int (fun _ _ => rfl)) (fun _ _ => rfl)))
      (pss_cons (ps_asg (pe_op op_add (pe_ix ix_list (pv 0) pe_int (fun _ _ => rfl)) pe_int) (pg_sub (pv 0) pe_int set_list))
      (pss_cons (ps_asg pe_int (pg_sub (pv 0) pe_int set_list))
      (pss_one (ps_if (pt_cmpR op_ge (pv 2) (pe_op op_pow pe_int pe_int) (nomark _)) (pss_one (ps_asg (pv 2) (pg_sub (pv 0) pe_int set_list))) (pss_one (ps_asg (pe_op op_modN (pe_op op_add (pe_ix ix_list (pv 0) pe_int (fun _ _ => rfl)) (pv 2)) pe_int) (pg_sub (pv 0) pe_int set_list)))))))) pss_nil)
      (pss_cons (ps_if (pt_cmpR op_ge (pe_ix ix_list (pv 0) pe_int (fun _ _ => rfl)) (pv 1) (nomark _)) (pss_cons (ps_set (i := 3) sc_pick.nd rfl (Or.inl rfl) (pe_op op_modN (pe_ix ix_list (pv 0) pe_int (fun _ _ => rfl)) (pv 1)))
      (pss_cons (ps_asg (pe_op op_fdivN (pe_ix ix_list (pv 0) pe_int (fun _ _ => rfl)) (pv 1)) (pg_sub (pv 0) pe_int set_list))
      (pss_one (ps_ret (pv 3))))) pss_nil)
      (pss_cons (ps_asg (pe_op op_add (pe_ix ix_list (pv 0) pe_int (fun _ _ => rfl)) pe_int) (pg_sub (pv 0) pe_int set_list))
      (pss_cons (ps_asg (pe_op op_modN (pe_op op_add (pe_op op_add (pe_op op_pow (pe_ix ix_list (pv 0) pe_int (fun _ _ => rfl)) pe_int) (pe_op op_mul pe_int (pe_ix ix_list (pv 0) pe_int (fun _ _ => rfl)))) pe_int) pe_int) (pg_sub (pv 0) pe_int set_list))
      (pss_one (ps_ret (pe_op op_modN (pe_op op_fdivN (pe_ix ix_list (pv 0) pe_int (fun _ _ => rfl)) pe_int) (pv 1)))))))), ?_⟩
    have hA : H a = some (.lst (ns.map V.int)) := e0 _ _ ha
    have nda : a ≠ d := fun z => by rw [z, out] at ha; cases ha
    refine ⟨fun σ H' => ∃ (i j k : Int) (v : Option V), σ = [some (.ref d), some (.int m), v, none] ∧ H' d = some (.lst [.ref a, .int i, .int j, .int k, .int l]) ∧ 0 ≤ i ∧ 0 ≤ j ∧ 0 ≤ k ∧ k < 2000000000 ∧ Go (· = d) H0 H H0 H', ?_, ?_⟩
    · -- if draw[2] < many and draw[1] < len(draw[0])
      refine ⟨_, rfl, d, _, 2, _, rfl, rfl, SqL.of hd, at_of (j := 2) rfl rfl, _, rfl, _, _, rfl, rfl, _, rfl, ifD (fun c => ?_) (fun c => ?_)⟩
      · refine ⟨_, rfl, d, _, 1, _, rfl, rfl, SqL.of hd, at_of (j := 1) rfl rfl, _, rfl, d, _, 0, _, rfl, rfl, SqL.of hd, at_of (j := 0) rfl rfl, a, _, rfl, .inl (SqL.of hA), _, _, rfl, rfl, _, rfl, ?_⟩
        rw [List.length_map]
        refine ifD (fun c2 => ?_) (fun c2 => ?_)
        · obtain ⟨n, rfl⟩ : ∃ n : Nat, i = (n : Int) := ⟨i.toNat, by omega⟩
          have hn : n < ns.length := by omega
          have g0 := Go.refl (m := (· = d)) e0
          -- cell = draw[0][draw[1]]
          refine ⟨_, rfl, d, _, 0, _, rfl, rfl, SqL.of hd, at_of (j := 0) rfl rfl, _, rfl, d, _, 1, _, rfl, rfl, SqL.of hd, at_of (j := 1) rfl rfl, a, _, _, _, rfl, rfl, SqL.of hA, at_of (j := n) rfl (map_int (List.getElem?_eq_getElem hn)), ?_⟩
          -- draw[1] = draw[1] + 1
          refine ⟨_, rfl, d, _, 1, _, rfl, rfl, SqL.of hd, at_of (j := 1) rfl rfl, _, _, rfl, rfl, _, rfl, _, _, _, 1, rfl, rfl, hd, rfl, ?_⟩
          -- draw[2] = 0
          refine ⟨_, rfl, _, _, _, 2, rfl, rfl, upd_same, rfl, ?_⟩
          -- if cell >= 10 ** 18
          refine ⟨_, rfl, _, _, rfl, rfl, ⟨by decide, by decide, by decide⟩, _, _, rfl, rfl, _, rfl, ifD (fun c3 => ?_) (fun c3 => ?_)⟩
          · refine ⟨_, rfl, _, rfl, _, _, _, 2, rfl, rfl, upd_same, rfl, ?_⟩
            have c4 : (10 : Int) ^ (18 : Int).toNat ≤ ns[n] := c3
            exact ⟨_, ns[n], k, _, rfl, upd_same, by omega, Int.le_trans (by decide) c4, hk0, hk, ((g0.turnM _ rfl out).turnM _ rfl out).turnM _ rfl out⟩
          · refine ⟨_, rfl, d, _, 3, _, rfl, rfl, SqL.of upd_same, at_of (j := 3) rfl rfl, _, rfl, _, _, rfl, rfl, _, _, rfl, rfl, (by show (1000000007 : Int) ≠ 0; decide), _, rfl, _, _, _, 3, rfl, rfl, upd_same, rfl, ?_⟩
            have f0 := Int.fmod_nonneg_of_pos (k + ns[n]) (show (0 : Int) < 1000000007 by decide)
            have f1 := Int.fmod_lt_of_pos (k + ns[n]) (show (0 : Int) < 1000000007 by decide)
            exact ⟨_, 0, _, _, rfl, upd_same, by omega, by decide, f0, by omega, ((g0.turnM _ rfl out).turnM _ rfl out).turnM _ rfl out⟩
        · exact ⟨i, j, k, none, rfl, hd, hi, hj, hk0, hk, Go.refl e0⟩
      · exact ⟨i, j, k, none, rfl, hd, hi, hj, hk0, hk, Go.refl e0⟩
    · rintro σ' H' ⟨i, j, k, v, rfl, hd, hi, hj, hk0, hk, g⟩
      -- if draw[2] >= many
      refine ⟨_, rfl, d, _, 2, _, rfl, rfl, SqL.of hd, at_of (j := 2) rfl rfl, _, rfl, _, _, rfl, rfl, _, rfl, ifD (fun c => ?_) (fun c => ?_)⟩
      · refine ⟨_, rfl, d, _, 2, _, rfl, rfl, SqL.of hd, at_of (j := 2) rfl rfl, _, rfl, _, _, rfl, rfl, (by omega : m ≠ 0), ?_⟩
        refine ⟨_, rfl, d, _, 2, _, rfl, rfl, SqL.of hd, at_of (j := 2) rfl rfl, _, rfl, _, _, rfl, rfl, ⟨by omega, by omega⟩, _, rfl, _, _, _, 2, rfl, rfl, hd, rfl, ?_⟩
        have f0 := Int.fmod_nonneg_of_pos j m0
        have f1 := Int.fmod_lt_of_pos j m0
        have f2 : 0 ≤ j.fdiv m := Int.fdiv_nonneg hj (by omega)
        exact ⟨_, rfl, q _ _ f0 f1 (g.turnM _ rfl out) ⟨⟨a, ns, i, _, k, l, upd_same, ha, hi, f2, hk0, hk⟩, out⟩⟩
      · refine ⟨_, rfl, d, _, 4, _, rfl, rfl, SqL.of hd, at_of (j := 4) rfl rfl, _, _, rfl, rfl, _, rfl, _, _, _, 4, rfl, rfl, hd, rfl, ?_⟩
        refine ⟨_, rfl, d, _, 3, _, rfl, rfl, SqL.of upd_same, at_of (j := 3) rfl rfl, _, _, rfl, rfl, ⟨by decide, by decide, by omega⟩, _, rfl, d, _, 4, _, rfl, rfl, SqL.of upd_same, at_of (j := 4) rfl rfl, _, _, rfl, rfl, .inl ⟨by decide, by decide⟩, _, _, rfl, rfl, _, _, rfl, rfl, _, _, rfl, rfl, (by show (1000000007 : Int) ≠ 0; decide), _, rfl, _, _, _, 3, rfl, rfl, upd_same, rfl, ?_⟩
        have f0 := Int.fmod_nonneg_of_pos (k ^ Int.toNat 3 + 40503 * (l + 1) + 17) (show (0 : Int) < 1000000007 by decide)
        have f1 := Int.fmod_lt_of_pos (k ^ Int.toNat 3 + 40503 * (l + 1) + 17) (show (0 : Int) < 1000000007 by decide)
        refine ⟨_, rfl, d, _, 3, _, rfl, rfl, SqL.of upd_same, at_of (j := 3) rfl rfl, _, _, rfl, rfl, ⟨by decide, by decide⟩, _, rfl, _, _, rfl, rfl, (by omega : m ≠ 0), ?_⟩
        exact q _ _ (Int.fmod_nonneg_of_pos _ m0) (Int.fmod_lt_of_pos _ m0) ((g.turnM _ rfl out).turnM _ rfl out) ⟨⟨a, ns, i, j, _, _, upd_same, ha, hi, hj, f0, by omega⟩, out⟩
abbrev s_one : Stmt := topS 11
theorem sc_one : FnScope ["_law_draw", "_law_some"] ["_law_draw", "_law_some"] (defScope s_one) := ⟨rfl, rfl, rfl, by decide +kernel, rfl, by decide +kernel, by decide +kernel⟩
def spOne : Sp := fun vs H Q _ => ∃ (d p : Addr) (xs : List V) (H0 : Hp), vs = [.ref d, .ref p] ∧ Ex H0 H ∧ Dr H0 H d ∧ H0 p = some (.lst xs) ∧ 0 < xs.length ∧ xs.length ≤ 1000000000 ∧
  ∀ (i : Nat) (v : V) (H' : Hp), xs[i]? = some v → Go (· = d) H0 H H0 H' → Dr H0 H' d → Q v H'
theorem ok_one {f : Addr} {fd : FuncData} (F : Fun K "_law_one" "_law_one" s_one f fd) (D__law_pick : Def P w K mg base "_law_pick" 1 spPick) (m_len : mg "len" = none) : FnOk P w K mg base CX0 2 f fd ["_law_draw", "_law_some"] spOne := by
  refine F.ok sc_one (fun vs H Q E h => ?_) (fun cdv A outer s H vs Q E hr h => ?_)
  · obtain ⟨d, p, xs, H0, rfl, _⟩ := h
    rfl
  · obtain ⟨d, p, xs, H0, rfl, e0, hD, hp, l0, l1, q⟩ := h
    refine ⟨_, (pss_one (ps_ret (pe_ix ix_list (pv 1) (pe_d D__law_pick (hr.mono (by decide)) rfl (pa_cons (pv 0) (pa_cons (pe_callB call_len_seq (by rfl) m_len PySem.boot_len (pa_cons (pv 1) pa_nil)) pa_nil))) (fun _ _ => rfl)))), ?_⟩
    refine ⟨.ref p, rfl, .ref d, rfl, .ref p, rfl, p, xs, rfl, .inl (SqL.of (e0 _ _ hp)), d, (xs.length : Int), H0, rfl, by omega, by omega, e0, hD, fun r H' r0 r1 g hD' => ?_⟩
    obtain ⟨j, rfl⟩ : ∃ j : Nat, r = (j : Int) := ⟨r.toNat, by omega⟩
    have hj : j < xs.length := by omega
    exact ⟨p, xs, (j : Int), _, rfl, rfl, SqL.of (g.inn _ _ hp), at_of (j := j) rfl (List.getElem?_eq_getElem hj), q j _ _ (List.getElem?_eq_getElem hj) g hD'⟩
abbrev s_law_gap : Stmt := topS 10
theorem sc_law_gap : FnScope ["_law_number", "_law_found", "_law_k"] ["_law_number"] (defScope s_law_gap) := ⟨rfl, rfl, rfl, by decide +kernel, rfl, by decide +kernel, by decide +kernel⟩
theorem ok_law_gap {f : Addr} {fd : FuncData} (F : Fun K "_law_gap" "_law_gap" s_law_gap f fd) (m_range : mg "range" = none) : FnOk P w K mg base CX0 1 f fd ["_law_number"] spGapBytes := by
  refine F.ok sc_law_gap (fun vs H Q E h => ?_) (fun cdv A outer s H vs Q E hr h => ?_)
  · obtain ⟨n, H0, rfl, _⟩ := h
    rfl
  · obtain ⟨n, H0, rfl, hn, e0, q⟩ := h
    refine ⟨_, (pss_cons (ps_set (i := 1) sc_law_gap.nd rfl (Or.inl rfl) (pe_lst (pa_cons (pe_op op_mod (pv 0) pe_int) pa_nil)))
      (pss_cons (ps_for PassesOwn.never rfl (pi_range1 rfl m_range (pa_cons pe_int pa_nil)) (pg_name (i := 2) sc_law_gap.nd rfl (Or.inl rfl)) (pss_cons (ps_set (i := 0) sc_law_gap.nd rfl (Or.inl rfl) (pe_op op_fdiv (pv 0) pe_int))
      (pss_one (ps_if (pt_cmpR op_gt (pv 0) pe_int (nomark _)) (pss_one (ps_set (i := 1) sc_law_gap.nd rfl (Or.inl rfl) (pe_op op_cat (pe_lst (pa_cons (pe_op op_add pe_int (pe_op op_mod (pv 0) pe_int)) pa_nil)) (pv 1)))) pss_nil))))
      (pss_one (ps_ret (pv 1))))), ?_⟩
    -- found = [number % 128]
    refine ⟨_, rfl, _, _, rfl, rfl, (by show (0 : Int) < 128; decide), (by show 1 ≤ sizeLine; decide), fun p hp => ?_⟩
    have g0 := Go.refl (m := fun _ => False) e0
    have g1 := g0.lay (.lst [V.int ((n : Int) % 128)]) hp
    refine ⟨4, rfl, by decide, by decide, for_range (lo := 0) (n := 4) (fun k σ H' => ∃ (m : Nat) (l : List Nat) (p : Addr) (v : Option V), σ = [some (.int (m : Int)), some (.ref p), v] ∧ H' p = some (.lst (nums l)) ∧ H p = none ∧ Go (fun _ => False) H0 H H0 H' ∧ m < 128 ^ (4 - k) ∧ l.length ≤ k + 1 ∧ gapB n = (gtl (m / 128)).reverse ++ l)
      ⟨n, [n % 128], p, none, rfl, upd_same, hp, g1, hn, (by show 1 ≤ 1; decide), gapB_eq n⟩ ?_ ?_⟩
    · rintro k σ H' hk ⟨m, l, p, v, rfl, hl, hp, g, hm, ll, el⟩
      -- number = number // 128
      refine ⟨_, rfl, _, _, rfl, rfl, ⟨by decide, by decide⟩, ?_⟩
      have hm2 : m / 128 < 128 ^ (4 - (k + 1)) := by
        have e : 4 - k = (4 - (k + 1)) + 1 := by omega
        rw [e, Nat.pow_succ] at hm
        omega
      refine ⟨_, rfl, _, _, rfl, rfl, _, rfl, ifD (fun c => ?_) (fun c => ?_)⟩
      · have hne : m / 128 ≠ 0 := by omega
        refine ⟨_, rfl, _, _, rfl, rfl, (by show (0 : Int) < 128; decide), _, _, rfl, rfl, (by show 1 ≤ sizeLine; decide), fun a ha => ?_⟩
        have g2 := g.lay (.lst [V.int (128 + ((m / 128 : Nat) : Int) % 128)]) ha
        have hl2 : upd H' a (.lst [V.int (128 + ((m / 128 : Nat) : Int) % 128)]) p = some (.lst (nums l)) := by
          rw [upd_ne (ne_of_none hl ha)]
          exact hl
        refine ⟨_, rfl, a, p, _, _, rfl, rfl, upd_same, hl2, mem_sz (by rw [nums_len]; show 1 + _ ≤ _; omega), fun b hb => ?_⟩
        refine ⟨m / 128, (128 + m / 128 % 128) :: l, b, _, rfl, ?_, g2.fresh hb, g2.lay _ hb, hm2, (by rw [List.length_cons]; omega), ?_⟩
        · rw [upd_same]
          rfl
        · rw [el, gtl1 hne, List.reverse_cons, List.append_assoc]
          rfl
      · have hz : m / 128 = 0 := by omega
        refine ⟨0, l, p, some (.int (0 + (k : Int))), ?_, hl, hp, g, Nat.pow_pos (by decide), by omega, ?_⟩
        · have : ((m : Int) / 128) = ((0 : Nat) : Int) := by omega
          show [some (V.int ((m : Int) / 128)), _, _] = _
          rw [this]
        · rw [el, hz]
    · rintro σ H' ⟨m, l, p, v, rfl, hl, hp, g, hm, ll, el⟩
      have hz : m = 0 := by
        have : 128 ^ (4 - 4) = 1 := rfl
        omega
      subst hz
      rw [show 0 / 128 = 0 by rfl, gtl0] at el
      exact ⟨_, rfl, q p _ g hp (by rw [el]; exact hl)⟩
abbrev s_same : Stmt := topS 14
theorem sc_same : FnScope ["_law_found", "_law_due", "_law_k"] ["_law_found", "_law_due"] (defScope s_same) := ⟨rfl, rfl, rfl, by decide +kernel, rfl, by decide +kernel, by decide +kernel⟩
/-- both stand for the same datum d, at most n deep -/
def spSame (K : PySem.W.Frag) (n : Nat) : Sp := fun vs H Q _ => ∃ (v u : V) (d : PyData) (H0 : Hp), vs = [v, u] ∧ Ex H0 H ∧ Dp K H v d ∧ Dp K H u d ∧ d.depth ≤ n ∧ smA d ∧ ∀ H', Go (fun _ => False) H0 H H0 H' → Q (.bl true) H'
def spRec (K : PySem.W.Frag) (n : Nat) : Sp := fun vs H Q E => ∃ m, n = m + 1 ∧ spSame K m vs H Q E
theorem same_step {f : Addr} {fd : FuncData} (n : Nat) (F : Fun K "_law_same" "_law_same" s_same f fd) (D__law_same : Def P w K mg base "_law_same" n (spRec K n)) (m_isinstance : mg "isinstance" = none) (m_bool : mg "bool" = none) (m_int : mg "int" = none) (m_str : mg "str" = none)
    (m_list : mg "list" = none) (m_tuple : mg "tuple" = none) (m_len : mg "len" = none) (m_all : mg "all" = none) (m_range : mg "range" = none) : FnOk P w K mg base CX0 (n + 1) f fd ["_law_found", "_law_due"] (spSame K n) := by
  refine F.ok sc_same (fun vs H Q E h => ?_) (fun cdv A outer s H vs Q E hr h => ?_)
  · obtain ⟨v, u, d, H0, rfl, _⟩ := h
    rfl
  · obtain ⟨v, u, d, H0, rfl, e0, hv, hu, hdep, hsm, q⟩ := h
    refine ⟨_, (pss_cons (ps_if (pt_cmpR op_isN (pv 1) pe_non (nomark _)) (pss_one (ps_ret (pe_cmpR op_isN (pv 0) pe_non (nomark _)))) pss_nil)
      (pss_cons (ps_if (PW.pt (pw_or (pt_val (pe_callB call_isi (by rfl) m_isinstance bt_isinstance (pa_cons (pv 1) (pa_cons (pe_bltn (v := .ty "bool") (by rfl) m_bool bt_bool rfl) pa_nil)))) (pw_or1 (pt_val (pe_callB call_isi (by rfl) m_isinstance bt_isinstance (pa_cons (pv 0) (pa_cons (pe_bltn (v := .ty "bool") (by rfl) m_bool bt_bool rfl) pa_nil))))))) (pss_one (ps_ret (pe_and (pe_callB call_isi (by rfl) m_isinstance bt_isinstance (pa_cons (pv 1) (pa_cons (pe_bltn (v := .ty "bool") (by rfl) m_bool bt_bool rfl) pa_nil))) (pe_and (pe_callB call_isi (by rfl) m_isinstance bt_isinstance (pa_cons (pv 0) (pa_cons (pe_bltn (v := .ty "bool") (by rfl) m_bool bt_bool rfl) pa_nil))) (pe_one (pe_cmpR op_eq (pv 0) (pv 1) (nomark _))))))) pss_nil)
      (pss_cons (ps_if (pt_val (pe_callB call_isiT (by rfl) m_isinstance bt_isinstance (pa_cons (pv 1) (pa_cons (pe_tup (pa_cons (pe_bltn (v := .ty "int") (by rfl) m_int bt_int rfl) (pa_cons (pe_bltn (v := .ty "str") (by rfl) m_str bt_str rfl) pa_nil))) pa_nil)))) (pss_one (ps_ret (pe_and (pe_cmpR op_eq (pe_callB call_isi (by rfl) m_isinstance bt_isinstance (pa_cons (pv 0) (pa_cons (pe_bltn (v := .ty "int") (by rfl) m_int bt_int rfl) pa_nil))) (pe_callB call_isi (by rfl) m_isinstance bt_isinstance (pa_cons (pv 1) (pa_cons (pe_bltn (v := .ty "int") (by rfl) m_int bt_int rfl) pa_nil))) (nomark _)) (pe_and (pe_callB call_isiT (by rfl) m_isinstance bt_isinstance (pa_cons (pv 0) (pa_cons (pe_tup (pa_cons (pe_bltn (v := .ty "int") (by rfl) m_int bt_int rfl) (pa_cons (pe_bltn (v := .ty "str") (by rfl) m_str bt_str rfl) pa_nil))) pa_nil))) (pe_one (pe_cmpR op_eq (pv 0) (pv 1) (nomark _))))))) pss_nil)
      (pss_cons (ps_if (PW.pt (pw_or (pt_cmpR op_ne (pe_callB call_isi (by rfl) m_isinstance bt_isinstance (pa_cons (pv 0) (pa_cons (pe_bltn (v := .ty "list") (by rfl) m_list bt_list rfl) pa_nil))) (pe_callB call_isi (by rfl) m_isinstance bt_isinstance (pa_cons (pv 1) (pa_cons (pe_bltn (v := .ty "list") (by rfl) m_list bt_list rfl) pa_nil))) (nomark _)) (pw_or1 (pt_cmpR op_ne (pe_callB call_isi (by rfl) m_isinstance bt_isinstance (pa_cons (pv 0) (pa_cons (pe_bltn (v := .ty "tuple") (by rfl) m_tuple bt_tuple rfl) pa_nil))) (pe_callB call_isi (by rfl) m_isinstance bt_isinstance (pa_cons (pv 1) (pa_cons (pe_bltn (v := .ty "tuple") (by rfl) m_tuple bt_tuple rfl) pa_nil))) (nomark _))))) (pss_one (ps_ret pe_bl)) pss_nil)
      (pss_one (ps_ret (pe_and (pe_cmpR op_eq (pe_callB call_len_seq (by rfl) m_len PySem.boot_len (pa_cons (pv 0) pa_nil)) (pe_callB call_len_seq (by rfl) m_len PySem.boot_len (pa_cons (pv 1) pa_nil)) (nomark _)) (pe_one (pe_callB (cr_all rfl) (by rfl) m_all bt_all (pa_cons (pe_lc (own := [("_law_k", 2)]) (g := gName 2) (tt := tYes) rfl sc_same.nd (pi_range1 rfl m_range (pa_cons (pe_callB call_len_seq (by rfl) m_len PySem.boot_len (pa_cons (pv 1) pa_nil)) pa_nil)) (blkOk_by (N := ["_law_found", "_law_due", "_law_k"]) (sc := defScope s_same) (by decide +kernel)) (fun _ _ _ _ _ => pg_name (i := 2) sc_same.nd rfl (Or.inl rfl)) (fun _ _ _ _ _ => pts_nil) (fun _ _ _ _ _ => (pe_d D__law_same hr rfl (pa_cons (pe_ix (r := rIx K) ix_seq (pv 0) (pv 2) (fun _ _ => rfl)) (pa_cons (pe_ix (r := rIx K) ix_seq (pv 1) (pv 2) (fun _ _ => rfl)) pa_nil))))) pa_nil)))))))))), ?_⟩
    have g0 := Go.refl (m := fun _ => False) e0
    cases hu with
    | non =>
      cases hv
      refine ⟨_, rfl, rfl, _, rfl, ifT rfl ?_⟩
      exact ⟨_, rfl, rfl, q _ g0⟩
    | bl b =>
      cases hv
      refine ⟨_, rfl, rfl, _, rfl, ifF rfl ?_⟩
      refine ⟨_, rfl, _, _, _, _, true, rfl, .ty "bool", .base (.bl b), kit_ty (by decide +kernel), _, rfl, ifT rfl ?_⟩
      refine ⟨_, rfl, _, _, _, _, true, rfl, .ty "bool", .base (.bl b), kit_ty (by decide +kernel), _, rfl, ifT rfl ?_⟩
      refine ⟨_, rfl, _, _, _, _, true, rfl, .ty "bool", .base (.bl b), kit_ty (by decide +kernel), _, rfl, ifT rfl ?_⟩
      refine ⟨_, rfl, _, rfl, rfl, ?_⟩
      rw [decide_eq_true rfl]
      exact q _ g0
    | int i =>
      cases hv
      refine ⟨_, rfl, rfl, _, rfl, ifF rfl ?_⟩
      refine ⟨_, rfl, _, _, _, _, false, rfl, .ty "bool", .base (.int i), kit_ty (by decide +kernel), _, rfl, ifF rfl ?_⟩
      refine ⟨_, rfl, _, _, _, _, false, rfl, .ty "bool", .base (.int i), kit_ty (by decide +kernel), _, rfl, ifF rfl ?_⟩
      refine ⟨_, rfl, (by show 2 ≤ sizeLine; decide), fun t ht => ?_⟩
      have g1 := g0.lay (.tup [.ty "int", .ty "str"]) ht
      refine ⟨_, t, _, _, [.type "int", .type "str"], true, rfl, upd_same, .cons (.ty _) (.cons (.ty _) .nil), .base (.int i), kitAny_cons (b := true) (kit_ty (by decide +kernel)) (fun z => nomatch z) (fun _ => rfl), _, rfl, ifT rfl ?_⟩
      refine ⟨_, rfl, _, _, _, _, true, rfl, .ty "int", .base (.int i), kit_ty (by decide +kernel), _, rfl, _, _, _, _, true, rfl, .ty "int", .base (.int i), kit_ty (by decide +kernel), rfl, _, rfl, ifT rfl ?_⟩
      refine ⟨_, rfl, (by show 2 ≤ sizeLine; decide), fun t2 ht2 => ?_⟩
      have g2 := g1.lay (.tup [.ty "int", .ty "str"]) ht2
      refine ⟨_, t2, _, _, [.type "int", .type "str"], true, rfl, upd_same, .cons (.ty _) (.cons (.ty _) .nil), .base (.int i), kitAny_cons (b := true) (kit_ty (by decide +kernel)) (fun z => nomatch z) (fun _ => rfl), _, rfl, ifT rfl ?_⟩
      refine ⟨_, rfl, _, rfl, rfl, ?_⟩
      rw [decide_eq_true rfl]
      exact q _ g2
    | str x =>
      cases hv
      refine ⟨_, rfl, rfl, _, rfl, ifF rfl ?_⟩
      refine ⟨_, rfl, _, _, _, _, false, rfl, .ty "bool", .base (.str x), kit_ty (by decide +kernel), _, rfl, ifF rfl ?_⟩
      refine ⟨_, rfl, _, _, _, _, false, rfl, .ty "bool", .base (.str x), kit_ty (by decide +kernel), _, rfl, ifF rfl ?_⟩
      refine ⟨_, rfl, (by show 2 ≤ sizeLine; decide), fun t ht => ?_⟩
      have g1 := g0.lay (.tup [.ty "int", .ty "str"]) ht
      refine ⟨_, t, _, _, [.type "int", .type "str"], true, rfl, upd_same, .cons (.ty _) (.cons (.ty _) .nil), .base (.str x), kitAny_cons (b := false) (kit_ty (by decide +kernel)) (fun _ => kitAny_cons (b := true) (kit_ty (by decide +kernel)) (fun z => nomatch z) (fun _ => rfl)) (fun z => nomatch z), _, rfl, ifT rfl ?_⟩
      refine ⟨_, rfl, _, _, _, _, false, rfl, .ty "int", .base (.str x), kit_ty (by decide +kernel), _, rfl, _, _, _, _, false, rfl, .ty "int", .base (.str x), kit_ty (by decide +kernel), rfl, _, rfl, ifT rfl ?_⟩
      refine ⟨_, rfl, (by show 2 ≤ sizeLine; decide), fun t2 ht2 => ?_⟩
      have g2 := g1.lay (.tup [.ty "int", .ty "str"]) ht2
      refine ⟨_, t2, _, _, [.type "int", .type "str"], true, rfl, upd_same, .cons (.ty _) (.cons (.ty _) .nil), .base (.str x), kitAny_cons (b := false) (kit_ty (by decide +kernel)) (fun _ => kitAny_cons (b := true) (kit_ty (by decide +kernel)) (fun z => nomatch z) (fun _ => rfl)) (fun z => nomatch z), _, rfl, ifT rfl ?_⟩
      refine ⟨_, rfl, _, rfl, rfl, ?_⟩
      rw [decide_eq_true rfl]
      exact q _ g2
    | @lst pu us ds su au =>
      cases hv with
      | @lst pv_ vs _ sv av =>
      refine ⟨_, rfl, rfl, _, rfl, ifF rfl ?_⟩
      refine ⟨_, rfl, _, _, _, _, false, rfl, .ty "bool", tyL su, kit_ty (by decide +kernel), _, rfl, ifF rfl ?_⟩
      refine ⟨_, rfl, _, _, _, _, false, rfl, .ty "bool", tyL sv, kit_ty (by decide +kernel), _, rfl, ifF rfl ?_⟩
      refine ⟨_, rfl, (by show 2 ≤ sizeLine; decide), fun t ht => ?_⟩
      have g1 := g0.lay (.tup [.ty "int", .ty "str"]) ht
      have x1 := go_ex g1
      refine ⟨_, t, _, _, [.type "int", .type "str"], false, rfl, upd_same, .cons (.ty _) (.cons (.ty _) .nil), tyL (x1.seq su), kitAny_cons (b := false) (kit_ty (by decide +kernel)) (fun _ => kitAny_cons (b := false) (kit_ty (by decide +kernel)) (fun _ => kitAny_nil) (fun z => nomatch z)) (fun z => nomatch z), _, rfl, ifF rfl ?_⟩
      refine ⟨_, rfl, _, _, _, _, true, rfl, .ty "list", tyL (x1.seq sv), kit_ty (by decide +kernel), _, rfl, _, _, _, _, true, rfl, .ty "list", tyL (x1.seq su), kit_ty (by decide +kernel), rfl, _, rfl, ifF rfl ?_⟩
      refine ⟨_, rfl, _, _, _, _, false, rfl, .ty "tuple", tyL (x1.seq sv), kit_ty (by decide +kernel), _, rfl, _, _, _, _, false, rfl, .ty "tuple", tyL (x1.seq su), kit_ty (by decide +kernel), rfl, _, rfl, ifF rfl ?_⟩
      have lv := dpa_len av
      have lu := dpa_len au
      refine ⟨_, rfl, pv_, vs, rfl, .inl (x1.seq sv), _, rfl, pu, us, rfl, .inl (x1.seq su), rfl, _, rfl, ifT (decide_eq_true (by rw [lv, lu])) ?_⟩
      refine ⟨_, rfl, pu, us, rfl, .inl (x1.seq su), _, rfl, by omega, by have := hsm.1; omega, fun D hD => lc_range (lo := 0) (n := us.length) (fun i H' => H' D = some (.lst (List.replicate i (.bl true))) ∧ Go (fun _ => False) H0 H H0 H') ⟨upd_same, g1.lay _ hD⟩ (fun i H' hi p => ?_) (fun H1 p => ?_)⟩
      · obtain ⟨d, hd⟩ : ∃ d, ds[i]? = some d := ⟨_, List.getElem?_eq_getElem (by omega)⟩
        obtain ⟨a, ha, da⟩ := dpa_at _ _ i d av hd
        obtain ⟨b, hb, db⟩ := dpa_at _ _ i d au hd
        have dd := dep_at hd
        have xp := go_ex p.2
        obtain ⟨m, rfl⟩ : ∃ m, n = m + 1 := ⟨n - 1, by have : PyData.depthAll ds + 1 ≤ n := hdep; omega⟩
        have dm : d.depth ≤ m := by
          have : PyData.depthAll ds + 1 ≤ m + 1 := hdep
          omega
        refine ⟨rfl, ?_⟩
        refine ⟨_, rfl, _, rfl, .inl ⟨pv_, vs, _, a, rfl, rfl, xp.seq sv, at_of (j := i) (by omega) ha, _, rfl, _, rfl, .inl ⟨pu, us, _, b, rfl, rfl, xp.seq su, at_of (j := i) (by omega) hb, ?_⟩⟩⟩
        refine ⟨m, rfl, a, b, d, H0, rfl, p.2.inn, dp_up xp _ _ da, dp_up xp _ _ db, dm, sm_at hsm.2 hd, fun H2 g2 => ?_⟩
        have hD2 := g2.keep _ _ p.1 (fun z => z)
        refine ⟨_, hD2, mem_lt (by have := hsm.1; rw [List.length_replicate]; omega), ?_, (p.2.then g2).turn _ (g1.fresh hD) (g1.fresh0 hD)⟩
        rw [upd_same, List.replicate_succ']
      · have pn : H1 D = some (.lst ((List.replicate us.length true).map V.bl)) := by rw [p.1, List.map_replicate]
        refine ⟨D, _, rfl, SqL.of pn, ?_⟩
        rw [all_rep]
        exact q _ p.2
    | @tup pu us ds su au =>
      cases hv with
      | @tup pv_ vs _ sv av =>
      refine ⟨_, rfl, rfl, _, rfl, ifF rfl ?_⟩
      refine ⟨_, rfl, _, _, _, _, false, rfl, .ty "bool", tyT su, kit_ty (by decide +kernel), _, rfl, ifF rfl ?_⟩
      refine ⟨_, rfl, _, _, _, _, false, rfl, .ty "bool", tyT sv, kit_ty (by decide +kernel), _, rfl, ifF rfl ?_⟩
      refine ⟨_, rfl, (by show 2 ≤ sizeLine; decide), fun t ht => ?_⟩
      have g1 := g0.lay (.tup [.ty "int", .ty "str"]) ht
      have x1 := go_ex g1
      refine ⟨_, t, _, _, [.type "int", .type "str"], false, rfl, upd_same, .cons (.ty _) (.cons (.ty _) .nil), tyT (x1.tup su), kitAny_cons (b := false) (kit_ty (by decide +kernel)) (fun _ => kitAny_cons (b := false) (kit_ty (by decide +kernel)) (fun _ => kitAny_nil) (fun z => nomatch z)) (fun z => nomatch z), _, rfl, ifF rfl ?_⟩
      refine ⟨_, rfl, _, _, _, _, false, rfl, .ty "list", tyT (x1.tup sv), kit_ty (by decide +kernel), _, rfl, _, _, _, _, false, rfl, .ty "list", tyT (x1.tup su), kit_ty (by decide +kernel), rfl, _, rfl, ifF rfl ?_⟩
      refine ⟨_, rfl, _, _, _, _, true, rfl, .ty "tuple", tyT (x1.tup sv), kit_ty (by decide +kernel), _, rfl, _, _, _, _, true, rfl, .ty "tuple", tyT (x1.tup su), kit_ty (by decide +kernel), rfl, _, rfl, ifF rfl ?_⟩
      have lv := dpa_len av
      have lu := dpa_len au
      refine ⟨_, rfl, pv_, vs, rfl, .inr (x1.tup sv), _, rfl, pu, us, rfl, .inr (x1.tup su), rfl, _, rfl, ifT (decide_eq_true (by rw [lv, lu])) ?_⟩
      refine ⟨_, rfl, pu, us, rfl, .inr (x1.tup su), _, rfl, by omega, by have := hsm.1; omega, fun D hD => lc_range (lo := 0) (n := us.length) (fun i H' => H' D = some (.lst (List.replicate i (.bl true))) ∧ Go (fun _ => False) H0 H H0 H') ⟨upd_same, g1.lay _ hD⟩ (fun i H' hi p => ?_) (fun H1 p => ?_)⟩
      · obtain ⟨d, hd⟩ : ∃ d, ds[i]? = some d := ⟨_, List.getElem?_eq_getElem (by omega)⟩
        obtain ⟨a, ha, da⟩ := dpa_at _ _ i d av hd
        obtain ⟨b, hb, db⟩ := dpa_at _ _ i d au hd
        have dd := dep_at hd
        have xp := go_ex p.2
        obtain ⟨m, rfl⟩ : ∃ m, n = m + 1 := ⟨n - 1, by have : PyData.depthAll ds + 1 ≤ n := hdep; omega⟩
        have dm : d.depth ≤ m := by
          have : PyData.depthAll ds + 1 ≤ m + 1 := hdep
          omega
        refine ⟨rfl, ?_⟩
        refine ⟨_, rfl, _, rfl, .inr (.inl ⟨pv_, vs, _, a, rfl, rfl, xp.tup sv, at_of (j := i) (by omega) ha, _, rfl, _, rfl, .inr (.inl ⟨pu, us, _, b, rfl, rfl, xp.tup su, at_of (j := i) (by omega) hb, ?_⟩)⟩)⟩
        refine ⟨m, rfl, a, b, d, H0, rfl, p.2.inn, dp_up xp _ _ da, dp_up xp _ _ db, dm, sm_at hsm.2 hd, fun H2 g2 => ?_⟩
        have hD2 := g2.keep _ _ p.1 (fun z => z)
        refine ⟨_, hD2, mem_lt (by have := hsm.1; rw [List.length_replicate]; omega), ?_, (p.2.then g2).turn _ (g1.fresh hD) (g1.fresh0 hD)⟩
        rw [upd_same, List.replicate_succ']
      · have pn : H1 D = some (.lst ((List.replicate us.length true).map V.bl)) := by rw [p.1, List.map_replicate]
        refine ⟨D, _, rfl, SqL.of pn, ?_⟩
        rw [all_rep]
        exact q _ p.2
theorem ok_same {f : Addr} {fd : FuncData} (F : Fun K "_law_same" "_law_same" s_same f fd) (bF : L2.Binds K fd ["_law_found", "_law_due"] []) (gF : mg "_law_same" = some (.ref f)) (m_isinstance : mg "isinstance" = none) (m_bool : mg "bool" = none) (m_int : mg "int" = none) (m_str : mg "str" = none)
    (m_list : mg "list" = none) (m_tuple : mg "tuple" = none) (m_len : mg "len" = none) (m_all : mg "all" = none) (m_range : mg "range" = none) : ∀ n, FnOk P w K mg base CX0 (n + 1) f fd ["_law_found", "_law_due"] (spSame K n)
  | 0 => same_step 0 F ⟨f, fd, _, _, gF, ⟨fun _ _ _ _ ⟨_, e, _⟩ => by omega, fun _ _ _ _ _ _ _ _ _ _ _ _ _ ⟨_, e, _⟩ => by omega⟩, F.kp, bF, .nil⟩ m_isinstance m_bool m_int m_str m_list m_tuple m_len m_all m_range
  | n + 1 => same_step (n + 1) F ⟨f, fd, _, _, gF, (ok_same F bF gF m_isinstance m_bool m_int m_str m_list m_tuple m_len m_all m_range n).imp fun vs H Q E ⟨m, e, h⟩ => by
      obtain rfl : m = n := by omega
      exact h, F.kp, bF, .nil⟩ m_isinstance m_bool m_int m_str m_list m_tuple m_len m_all m_range
abbrev s_tape_init : Stmt := inClass (topS 1) 0
theorem sc_tape_init : FnScope ["self", "why", "name"] ["self", "why"] (defScope s_tape_init) := ⟨rfl, rfl, rfl, by decide +kernel, rfl, by decide +kernel, by decide +kernel⟩
theorem ok_tape_init {f : Addr} {fd : FuncData} {dvs : List V} (F : FunD K "__init__" "TapeError.__init__" (defArgs s_tape_init) (defBody s_tape_init) (defScope s_tape_init) dvs [] f fd) (m_VE : mg "ValueError" = none)
    (vV : PySem.W.findCls K (.type "ValueError") (.type "type") "__init__" = some (.val (.builtin "ValueError.__init__"))) : FnOk P w K mg base CX0 1 f fd ["self", "why"] (spInit K) := by
  refine okD0 F sc_tape_init (fun vs H Q E h => ?_) (fun cdv A outer s H vs Q E hr h => ?_)
  · obtain ⟨a, C, why, z, rfl, _⟩ := h
    rfl
  · refine ⟨_, pss_cons (ps_expr (pe_veinit rfl m_VE vV (pa_cons (pv 0) (pa_cons (pv 1) pa_nil)))) (pss_cons (ps_set (i := 2) sc_tape_init.nd rfl (Or.inl rfl) (pe_cn (pv 0))) (pss_one (ps_ost (pv 0) (pe_lower (pv 2))))), ?_⟩
    obtain ⟨a, C, why, z, rfl, T1, T2, T3, T4, hz, ha, q⟩ := h
    refine ⟨_, rfl, _, rfl, a, C, _, rfl, (by show 1 ≤ 1000; decide), T1, ha, ?_⟩
    refine ⟨_, rfl, a, C, z, rfl, T2, T3, ha, ?_⟩
    refine ⟨_, rfl, ⟨_, rfl⟩, _, rfl, rfl, by omega, ?_⟩
    exact ⟨_, rfl, a, C, rfl, T1, T4, .inl ⟨ha, fun dx h1 h2 => q dx h1 h2⟩⟩
abbrev s_bytes_init : Stmt := inClass (topS 2) 0
theorem sc_bytes_init : FnScope ["self", "at"] ["self", "at"] (defScope s_bytes_init) := ⟨rfl, rfl, rfl, by decide +kernel, rfl, by decide +kernel, by decide +kernel⟩
theorem ok_bytes_init {f fI : Addr} {fd fdI : FuncData} (F : Fun K "__init__" "BadBytes.__init__" s_bytes_init f fd) (O : Off K mg "TapeError" "__init__" fI) (FI : FnOk P w K mg base CX0 1 fI fdI ["self", "why"] (spInit K)) (kI : PySem.W.keepIn K (.ref fI) = true) (bI : L2.Binds K fdI ["self", "why"] []) :
    FnOk P w K mg base CX0 2 f fd ["self", "at"] (spInitAt K) := by
  refine F.ok sc_bytes_init (fun vs H Q E h => ?_) (fun cdv A outer s H vs Q E hr h => ?_)
  · obtain ⟨a, C, n, z, rfl, _⟩ := h
    rfl
  · refine ⟨_, pss_cons (ps_expr (pe_off (f := fI) O FI hr rfl kI bI (pa_cons (pv 0) (pa_cons (pe_joined (.cons pe_str (.cons (pe_fmt (pv 1)) .nil))) pa_nil)))) (pss_one (ps_ost (pv 0) (pv 1))), ?_⟩
    obtain ⟨a, C, n, z, rfl, hn, T1, T2, T3, T4, T5, hz, ha, q⟩ := h
    refine ⟨_, rfl, _, rfl, (by decide +kernel), _, rfl, .inr ⟨n, rfl, log_small (Nat.lt_trans hn (by decide)), _, rfl, mem_sz (Nat.le_trans (txt_sz (by decide +kernel) (Nat.lt_trans hn (by decide))) (by decide)), ?_⟩⟩
    refine ⟨a, C, _, z, rfl, T1, T2, T3, T4, hz, ha, fun dx h1 h2 => ?_⟩
    exact ⟨_, rfl, _, rfl, a, C, rfl, T1, T5, .inr ⟨dx, _, upd_same, by rw [upd_ne h2, upd_same], (by show 1 ≤ 900; decide), q dx h1 h2⟩⟩
abbrev s_gap_read_x : Stmt := topS 6
theorem sc_gap_read_x : FnScope ["row", "at", "number", "place"] ["row", "at"] (defScope s_gap_read_x) := ⟨rfl, rfl, rfl, by decide +kernel, rfl, by decide +kernel, by decide +kernel⟩
/-- the reading of a number: k signs read, at the place, num so far -/
def rdG : List Nat → Nat → Nat → Nat → Nat × Nat × Bool
  | [], _, at_, _ => (0, at_, false)
  | b :: l, k, at_, num => if b < 128 then (num * 128 + b, at_ + 1, true) else if (k = 0 ∧ b = 128) ∨ k = 3 then (0, at_, false) else rdG l (k + 1) (at_ + 1) (num * 128 + b - 128)
def rdAt (row : List Nat) (at_ : Nat) : Nat × Nat × Bool := rdG (row.drop at_) 0 at_ 0
theorem drop_nil {l : List Nat} {i : Nat} (h : l.length ≤ i) : l.drop i = [] := List.drop_eq_nil_of_le h
theorem drop_cons {l : List Nat} {i b : Nat} (h : l[i]? = some b) : l.drop i = b :: l.drop (i + 1) := by
  obtain ⟨hi, e⟩ := List.getElem?_eq_some_iff.mp h
  rw [List.drop_eq_getElem_cons hi, e]
/-- gap_read of a row of bytes: a new pair, or BadBytes -/
def spGapReadX (K : PySem.W.Frag) (mg : Str → Option Value) : Sp := fun vs H Q E => ∃ (r : Addr) (row : List Nat) (at_ : Nat) (H0 : Hp), vs = [.ref r, .int (at_ : Int)] ∧ Ex H0 H ∧ H0 r = some (.lst (nums row)) ∧ at_ ≤ row.length ∧ row.length ≤ 1000000 ∧ (∀ b ∈ row, b < 256) ∧
  (∀ (n pl : Nat) (p : Addr) (H' : Hp), rdAt row at_ = (n, pl, true) → Go (fun _ => False) H0 H H0 H' → H p = none → H' p = some (.tup [.int (n : Int), .int (pl : Int)]) → Q (.ref p) H') ∧
  (∀ (pl : Nat), rdAt row at_ = (0, pl, false) → ∀ cls d H', RaisedA K mg (pl : Int) H cls d H' → E cls d H')
theorem ok_gap_read_x {f : Addr} {fd : FuncData} (F : FunD K "gap_read" "gap_read" (defArgs s_gap_read_x) (defBody s_gap_read_x) (defScope s_gap_read_x) [.int 0] [] f fd) (T_BadBytes : ErrA P w K mg base 2) (m_len : mg "len" = none) (c_MOST_SIZE : ∃ u, mg "MOST_SIZE" = some u ∧ L2.RelV (.int 4) u) (c_BASE : ∃ u, mg "BASE" = some u ∧ L2.RelV (.int 128) u) : FnOk P w K mg base (L2.CX P w) 4 f fd ["row", "at"] (spGapReadX K mg) := by
  refine F.ok sc_gap_read_x (fun vs H Q E h => ?_) (fun cdv A outer s H vs Q E hr h => ?_)
  · obtain ⟨r, row, a, H0, rfl, _⟩ := h
    rfl
  · obtain ⟨r, row, a, H0, rfl, e0, hr0, ha, hl, hb, q, qe⟩ := h
    refine ⟨_, (pss_cons (ps_set (i := 2) sc_gap_read_x.nd rfl (Or.inl rfl) pe_int)
      (pss_cons (ps_set (i := 3) sc_gap_read_x.nd rfl (Or.inl rfl) (pv 1))
      (pss_cons (ps_while (passes_of rfl) (PW.pt (pw_and (pt_cmpR op_lt (pv 3) (pe_callB call_len_seq (by rfl) m_len PySem.boot_len (pa_cons (pv 0) pa_nil)) (nomark _)) (pw_and1 (pt_cmpR op_ge (pe_ix ix_list (pv 0) (pv 3) (fun _ _ => rfl)) (C8.pe_gc rfl c_BASE) (nomark _))))) (pss_cons (ps_if (PW.pt (pw_or (PW.pt (pw_and (pt_cmpR op_eq (pv 3) (pv 1) (nomark _)) (pw_and1 (pt_cmpR op_eq (pe_ix ix_list (pv 0) (pv 3) (fun _ _ => rfl)) (C8.pe_gc rfl c_BASE) (nomark _))))) (pw_or1 (pt_cmpR op_eq (pv 3) (pe_op op_sub (pe_op op_add (pv 1) (C8.pe_gc rfl c_MOST_SIZE)) pe_int) (nomark _))))) (pss_one (ps_raiseA rfl T_BadBytes hr (takes_of rfl rfl rfl rfl) rfl (pa_cons (pv 3) pa_nil))) pss_nil)
      (pss_cons (ps_set (i := 2) sc_gap_read_x.nd rfl (Or.inl rfl) (pe_op op_sub (pe_op op_add (pe_op op_mul (pv 2) (C8.pe_gc rfl c_BASE)) (pe_ix ix_list (pv 0) (pv 3) (fun _ _ => rfl))) (C8.pe_gc rfl c_BASE)))
      (pss_one (ps_aug (i := 3) sc_gap_read_x.nd rfl (Or.inl rfl) pe_int ip_add)))))
      (pss_cons (ps_if (pt_cmpR op_ge (pv 3) (pe_callB call_len_seq (by rfl) m_len PySem.boot_len (pa_cons (pv 0) pa_nil)) (nomark _)) (pss_one (ps_raiseA rfl T_BadBytes hr (takes_of rfl rfl rfl rfl) rfl (pa_cons (pe_callB call_len_seq (by rfl) m_len PySem.boot_len (pa_cons (pv 0) pa_nil)) pa_nil))) pss_nil)
      (pss_one (ps_ret (pe_tup (pa_cons (pe_op op_add (pe_op op_mul (pv 2) (C8.pe_gc rfl c_BASE)) (pe_ix ix_list (pv 0) (pv 3) (fun _ _ => rfl))) (pa_cons (pe_op op_add (pv 3) pe_int) pa_nil))))))))), ?_⟩
    have hR : H r = some (.lst (nums row)) := e0 _ _ hr0
    refine ⟨_, rfl, fun m σ H' => ∃ (k num : Nat), m = row.length - (a + k) ∧ a + k ≤ row.length ∧ k ≤ 3 ∧ num < 128 ^ k ∧ σ = [some (.ref r), some (.int (a : Int)), some (.int (num : Int)), some (.int ((a + k : Nat) : Int))] ∧ H' = H ∧ rdG (row.drop (a + k)) k (a + k) num = rdAt row a, ⟨_, 0, 0, rfl, ha, by decide, by decide, rfl, rfl, rfl⟩, ?_⟩
    rintro m σ H' ⟨k, num, rfl, hk, k3, hnum, rfl, rfl, hd⟩
    have m64 : num < 2097152 := Nat.lt_of_lt_of_le hnum (Nat.le_trans (Nat.pow_le_pow_right (by decide) k3) (by decide))
    -- while place < len(row) and row[place] >= BASE
    refine ⟨_, rfl, _, rfl, r, _, rfl, .inl (SqL.of hR), _, _, rfl, rfl, _, rfl, ifD (fun c => ?_) (fun c => ?_)⟩
    · rw [nums_len] at c
      obtain ⟨b, hb'⟩ : ∃ b, row[a + k]? = some b := ⟨_, List.getElem?_eq_getElem (by omega)⟩
      have b256 := hb b (List.mem_of_getElem? hb')
      rw [drop_cons hb'] at hd
      refine ⟨_, rfl, _, rfl, r, _, _, _, rfl, rfl, SqL.of hR, at_of (j := a + k) rfl (nums_at hb'), _, _, rfl, rfl, _, rfl, ifD (fun c2 => ?_) (fun c2 => ?_)⟩
      · have nb : ¬ b < 128 := by omega
        have hd1 : (if (k = 0 ∧ b = 128) ∨ k = 3 then ((0, a + k, false) : Nat × Nat × Bool) else rdG (row.drop (a + k + 1)) (k + 1) (a + k + 1) (num * 128 + b - 128)) = rdAt row a := by
          rw [← hd]
          show _ = (if b < 128 then _ else _)
          rw [if_neg nb]
        refine ⟨fun σ' H2 => ∃ (num' : Nat), k + 1 ≤ 3 ∧ num' < 128 ^ (k + 1) ∧ σ' = [some (.ref r), some (.int (a : Int)), some (.int (num' : Int)), some (.int ((a + (k + 1) : Nat) : Int))] ∧ H2 = H' ∧ rdG (row.drop (a + (k + 1))) (k + 1) (a + (k + 1)) num' = rdAt row a, fun σ' H2 ⟨n', h1, h2, h3, h4, h5⟩ => ⟨row.length - (a + (k + 1)), by omega, k + 1, n', rfl, by omega, h1, h2, h3, h4, h5⟩, ?_⟩
        -- the refusal at this place
        have bad : (k = 0 ∧ b = 128) ∨ k = 3 → ∀ cls d H2, RaisedA K mg ((a + k : Nat) : Int) H' cls d H2 → E cls d H2 := fun z => by
          rw [if_pos z] at hd1
          exact qe _ hd1.symm
        -- the way on
        have go : ¬ ((k = 0 ∧ b = 128) ∨ k = 3) → ∀ (Q : L2.St → Hp → Prop), (∀ num' : Nat, k + 1 ≤ 3 → num' < 128 ^ (k + 1) → rdG (row.drop (a + (k + 1))) (k + 1) (a + (k + 1)) num' = rdAt row a → Q [some (.ref r), some (.int (a : Int)), some (.int (num' : Int)), some (.int ((a + (k + 1) : Nat) : Int))] H') →
            Q [some (.ref r), some (.int (a : Int)), some (.int ((num : Int) * 128 + (b : Int) - 128)), some (.int (((a + k : Nat) : Int) + 1))] H' := fun z Q h => by
          rw [if_neg z] at hd1
          have e1 : (num : Int) * 128 + (b : Int) - 128 = ((num * 128 + b - 128 : Nat) : Int) := by omega
          have e2 : (((a + k : Nat) : Int) + 1) = ((a + (k + 1) : Nat) : Int) := by omega
          rw [e1, e2]
          have e3 : 128 ^ (k + 1) = 128 ^ k * 128 := Nat.pow_succ 128 k
          exact h _ (by omega) (by omega) hd1
        -- if place == at and row[place] == BASE or place == at + MOST_SIZE - 1
        refine ⟨_, rfl, _, rfl, rfl, _, rfl, ifD (fun c3 => ?_) (fun c3 => ?_)⟩
        · have k0 : k = 0 := by
            have := V.int.inj c3
            omega
          refine ⟨_, rfl, _, rfl, r, _, _, _, rfl, rfl, SqL.of hR, at_of (j := a + k) rfl (nums_at hb'), rfl, _, rfl, ifD (fun c4 => ?_) (fun c4 => ?_)⟩
          · have b1 : b = 128 := by
              have := V.int.inj c4
              omega
            exact ⟨_, rfl, _, rfl, by omega, fun cls d H2 R => bad (.inl ⟨k0, b1⟩) cls d H2 R⟩
          · have nz : ¬ ((k = 0 ∧ b = 128) ∨ k = 3) := by
              rintro (z | z)
              · exact c4 (by rw [z.2]; rfl)
              · omega
            refine ⟨_, rfl, _, rfl, _, _, rfl, rfl, _, _, rfl, rfl, rfl, _, rfl, ifF (decide_eq_false fun z => by have := V.int.inj z; omega) ?_⟩
            refine ⟨_, rfl, _, _, rfl, rfl, .inr ⟨by decide, by decide⟩, _, rfl, _, rfl, r, _, _, _, rfl, rfl, SqL.of hR, at_of (j := a + k) rfl (nums_at hb'), _, _, rfl, rfl, _, _, rfl, rfl, ?_⟩
            exact ⟨_, rfl, _, _, rfl, rfl, go nz (fun σ' H2 => ∃ (num' : Nat), k + 1 ≤ 3 ∧ num' < 128 ^ (k + 1) ∧ σ' = [some (.ref r), some (.int (a : Int)), some (.int (num' : Int)), some (.int ((a + (k + 1) : Nat) : Int))] ∧ H2 = H' ∧ rdG (row.drop (a + (k + 1))) (k + 1) (a + (k + 1)) num' = rdAt row a) fun n' h1 h2 h3 => ⟨n', h1, h2, rfl, rfl, h3⟩⟩
        · refine ifF rfl ?_
          refine ⟨_, rfl, _, rfl, _, _, rfl, rfl, _, _, rfl, rfl, rfl, _, rfl, ifD (fun c4 => ?_) (fun c4 => ?_)⟩
          · have b1 : k = 3 := by
              have := V.int.inj c4
              omega
            exact ⟨_, rfl, _, rfl, by omega, fun cls d H2 R => bad (.inr b1) cls d H2 R⟩
          · have nz : ¬ ((k = 0 ∧ b = 128) ∨ k = 3) := by
              rintro (z | z)
              · exact c3 (by rw [z.1]; rfl)
              · exact c4 (by congr 1; omega)
            refine ⟨_, rfl, _, _, rfl, rfl, .inr ⟨by decide, by decide⟩, _, rfl, _, rfl, r, _, _, _, rfl, rfl, SqL.of hR, at_of (j := a + k) rfl (nums_at hb'), _, _, rfl, rfl, _, _, rfl, rfl, ?_⟩
            exact ⟨_, rfl, _, _, rfl, rfl, go nz (fun σ' H2 => ∃ (num' : Nat), k + 1 ≤ 3 ∧ num' < 128 ^ (k + 1) ∧ σ' = [some (.ref r), some (.int (a : Int)), some (.int (num' : Int)), some (.int ((a + (k + 1) : Nat) : Int))] ∧ H2 = H' ∧ rdG (row.drop (a + (k + 1))) (k + 1) (a + (k + 1)) num' = rdAt row a) fun n' h1 h2 h3 => ⟨n', h1, h2, rfl, rfl, h3⟩⟩
      · -- the last sign
        have lb : b < 128 := by omega
        have hd1 : ((num * 128 + b, a + k + 1, true) : Nat × Nat × Bool) = rdAt row a := by
          rw [← hd]
          show _ = (if b < 128 then _ else _)
          rw [if_pos lb]
        refine ⟨_, rfl, _, rfl, r, _, rfl, .inl (SqL.of hR), _, _, rfl, rfl, _, rfl, ifF (decide_eq_false (by rw [nums_len]; omega)) ?_⟩
        refine ⟨_, rfl, _, _, rfl, rfl, .inr ⟨by decide, by decide⟩, _, rfl, _, rfl, r, _, _, _, rfl, rfl, SqL.of hR, at_of (j := a + k) rfl (nums_at hb'), _, _, rfl, rfl, _, rfl, _, _, rfl, rfl, (by show 2 ≤ sizeLine; decide), fun p hp => ?_⟩
        refine q _ _ p _ hd1.symm ((Go.refl e0).lay _ hp) hp ?_
        rw [upd_same]
        have e1 : (num : Int) * 128 + (b : Int) = ((num * 128 + b : Nat) : Int) := by omega
        have e2 : (((a + k : Nat) : Int) + 1) = ((a + k + 1 : Nat) : Int) := by omega
        show some (HO.tup [V.int ((num : Int) * 128 + (b : Int)), V.int (((a + k : Nat) : Int) + 1)]) = _
        rw [e1, e2]
    · rw [nums_len] at c
      have ek : a + k = row.length := by omega
      have hd1 : ((0, row.length, false) : Nat × Nat × Bool) = rdAt row a := by
        rw [← hd, drop_nil (by omega), ek]
        rfl
      refine ifF rfl ?_
      refine ⟨_, rfl, _, rfl, r, _, rfl, .inl (SqL.of hR), _, _, rfl, rfl, _, rfl, ifT (decide_eq_true (by rw [nums_len]; omega)) ?_⟩
      refine ⟨_, rfl, r, _, rfl, .inl (SqL.of hR), _, rfl, by rw [nums_len]; omega, fun cls d H2 R => ?_⟩
      rw [nums_len] at R
      exact qe _ hd1.symm cls d H2 R
end
end Rt

namespace Rt
open PySem PySem.Spec PyProof.Rows L2

section
variable {P : Program} {w : World} {K : PySem.W.Frag} {mg : Str → Option Value} {base : Heap}
abbrev s_bent_bytes : Stmt := topS 12
theorem sc_bent_bytes : FnScope ["_law_draw", "_law_row", "_law_found", "_law_bend", "_law_at", "_law_byte", "_law_kind"] ["_law_draw", "_law_row"] (defScope s_bent_bytes) := ⟨rfl, rfl, rfl, by decide +kernel, rfl, by decide +kernel, by decide +kernel⟩
theorem cut_nums (l : List Nat) (lo hi : Option Int) : ∃ l' : List Nat, cutV (nums l) lo hi = nums l' ∧ l'.length ≤ l.length ∧ ∀ b ∈ l', b ∈ l := by
  refine ⟨(l.drop (HT.sIx (nums l).length 0 lo)).take (HT.sIx (nums l).length (nums l).length hi - HT.sIx (nums l).length 0 lo), ?_, ?_, fun b h => List.mem_of_mem_drop (List.mem_of_mem_take h)⟩
  · unfold cutV nums
    rw [← List.map_drop, ← List.map_take]
  · rw [List.length_take, List.length_drop]
    omega
theorem up_put {G : Hp} {p b : Addr} {o u : HO} (n : G p = none) (h : G b = some u) : upd G p o b = some u := by
  rw [upd_ne (ne_of_none h n)]
  exact h
/-- some bytes of a row changed: a new row of bytes, not much longer -/
def spBent : Sp := fun vs H Q _ => ∃ (d r : Addr) (row : List Nat) (H0 : Hp), vs = [.ref d, .ref r] ∧ Ex H0 H ∧ Dr H0 H d ∧ H0 r = some (.lst (nums row)) ∧ row.length ≤ 10000 ∧ (∀ b ∈ row, b < 256) ∧
  ∀ (p : Addr) (row' : List Nat) (H0' H' : Hp), Go (· = d) H0 H H0' H' → Dr H0' H' d → H p = none → H0' p = some (.lst (nums row')) → row'.length ≤ 4 * row.length + 3 → (∀ b ∈ row', b < 256) → Q (.ref p) H'
theorem ok_bent {f : Addr} {fd : FuncData} (F : Fun K "_law_bent_bytes" "_law_bent_bytes" s_bent_bytes f fd) (D__law_pick : Def P w K mg base "_law_pick" 1 spPick) (D__law_one : Def P w K mg base "_law_one" 2 spOne) (m_len : mg "len" = none) (m_list : mg "list" = none) (m_range : mg "range" = none) : FnOk P w K mg base CX0 3 f fd ["_law_draw", "_law_row"] spBent := by
  refine F.ok sc_bent_bytes (fun vs H Q E h => ?_) (fun cdv A outer s B vs Q E hr h => ?_)
  · obtain ⟨d, r, row, H0, rfl, _⟩ := h
    rfl
  · obtain ⟨d, r, row, H0, rfl, e0, hD, hr0, hl, hb, q⟩ := h
    refine ⟨_, (pss_cons (ps_set (i := 2) sc_bent_bytes.nd rfl (Or.inl rfl) (pe_callTy call_list_of (by rfl) m_list bt_list (pa_cons (pv 1) pa_nil)))
      (pss_cons (ps_for PassesOwn.never rfl (pi_range1 rfl m_range (pa_cons (pe_op op_add pe_int (pe_d D__law_pick (hr.mono (by decide)) rfl (pa_cons (pv 0) (pa_cons pe_int pa_nil)))) pa_nil)) (pg_name (i := 3) sc_bent_bytes.nd rfl (Or.inl rfl)) (pss_cons (ps_set (i := 4) sc_bent_bytes.nd rfl (Or.inl rfl) (pe_d D__law_pick (hr.mono (by decide)) rfl (pa_cons (pv 0) (pa_cons (pe_op op_add (pe_callB call_len_seq (by rfl) m_len PySem.boot_len (pa_cons (pv 2) pa_nil)) pe_int) pa_nil))))
      (pss_cons (ps_set (i := 5) sc_bent_bytes.nd rfl (Or.inl rfl) (pe_d D__law_one (hr.mono (by decide)) rfl (pa_cons (pv 0) (pa_cons (pe_lst (pa_cons pe_int (pa_cons pe_int (pa_cons pe_int (pa_cons pe_int (pa_cons pe_int (pa_cons pe_int (pa_cons pe_int (pa_cons pe_int (pa_cons pe_int (pa_cons pe_int (pa_cons pe_int (pa_cons pe_int (pa_cons (pe_d D__law_pick (hr.mono (by decide)) rfl (pa_cons (pv 0) (pa_cons pe_int pa_nil))) pa_nil)))))))))))))) pa_nil))))
      (pss_cons (ps_set (i := 6) sc_bent_bytes.nd rfl (Or.inl rfl) (pe_d D__law_pick (hr.mono (by decide)) rfl (pa_cons (pv 0) (pa_cons pe_int pa_nil))))
      (pss_one (ps_if (pt_cmpR op_eq (pv 6) pe_int (nomark _)) (pss_one (ps_set (i := 2) sc_bent_bytes.nd rfl (Or.inl rfl) (pe_slice sl_list (pv 2) po_none (po_some (pv 4))))) (pss_one (ps_if (pt_cmpR op_eq (pv 6) pe_int (nomark _)) (pss_one (ps_set (i := 2) sc_bent_bytes.nd rfl (Or.inl rfl) (pe_op op_cat (pe_slice sl_list (pv 2) po_none (po_some (pv 4))) (pe_slice sl_list (pv 2) (po_some (pe_op op_add (pv 4) pe_int)) po_none)))) (pss_one (ps_if (pt_cmpR op_eq (pv 6) pe_int (nomark _)) (pss_one (ps_set (i := 2) sc_bent_bytes.nd rfl (Or.inl rfl) (pe_op op_cat (pe_op op_cat (pe_slice sl_list (pv 2) po_none (po_some (pv 4))) (pe_lst (pa_cons (pv 5) pa_nil))) (pe_slice sl_list (pv 2) (po_some (pv 4)) po_none)))) (pss_one (ps_if (pt_cmpR op_eq (pv 6) pe_int (nomark _)) (pss_one (ps_set (i := 2) sc_bent_bytes.nd rfl (Or.inl rfl) (pe_op op_cat (pv 2) (pe_lst (pa_cons (pv 5) pa_nil))))) (pss_one (ps_set (i := 2) sc_bent_bytes.nd rfl (Or.inl rfl) (pe_op op_cat (pe_op op_cat (pe_slice sl_list (pv 2) po_none (po_some (pv 4))) (pe_lst (pa_cons (pv 5) pa_nil))) (pe_slice sl_list (pv 2) (po_some (pe_op op_add (pv 4) pe_int)) po_none))))))))))))))))
      (pss_one (ps_ret (pv 2))))), ?_⟩
    -- found = list(row)
    refine ⟨.ref r, rfl, r, _, rfl, .inl (SqL.of (e0 _ _ hr0)), fun c hc => ?_⟩
    have S0 := (Sd.here e0 hD).put (.lst (nums row)) hc
    -- for bend in range(1 + pick(draw, 2))
    refine ⟨_, rfl, d, 2, _, rfl, by decide, by decide, S0.ex, S0.dr, fun x H1 x0 x1 g hD1 => ?_⟩
    have S1 := S0.call g hD1
    obtain ⟨n, rfl⟩ : ∃ n : Nat, x = (n : Int) := ⟨x.toNat, by omega⟩
    refine ⟨_, _, rfl, rfl, _, rfl, by omega, by omega, ?_⟩

    refine for_range (lo := 0) (n := 1 + n) (fun i σ H' => ∃ (v3 v4 v5 v6 : Option V) (p : Addr) (l : List Nat) (G0 : Hp), σ = [some (.ref d), some (.ref r), some (.ref p), v3, v4, v5, v6] ∧ Sd d H0 B G0 H' ∧ B p = none ∧ G0 p = some (.lst (nums l)) ∧ l.length + 1 ≤ (row.length + 1) * 2 ^ i ∧ (∀ b ∈ l, b < 256)) ?_ ?_ ?_
    · exact ⟨none, none, none, none, c, row, _, rfl, S1, hc, g.up _ _ upd_same, by omega, hb⟩
    · clear S0 S1 g hD1
      rintro i σ H hi ⟨v3, v4, v5, v6, p, l, G0, rfl, S, hp, hlp, hln, hlb⟩
      have i2 : i ≤ 1 := by omega
      have l2 : l.length ≤ 20002 := by
        have : 2 ^ i ≤ 2 := Nat.le_trans (Nat.pow_le_pow_right (by decide) i2) (by decide)
        have := Nat.mul_le_mul_left (row.length + 1) this
        omega
      -- at = pick(draw, len(found) + 1)
      refine ⟨_, rfl, _, rfl, p, _, rfl, .inl (SqL.of (S.ex _ _ hlp)), _, _, rfl, rfl, d, _, _, rfl, by rw [nums_len]; omega, by rw [nums_len]; omega, S.ex, S.dr, fun x H x0 x1 g hD => ?_⟩
      have S := S.call g hD
      have hlp := g.up _ _ hlp
      -- byte = one(draw, [..])
      refine ⟨_, rfl, _, rfl, d, 256, _, rfl, by decide, by decide, S.ex, S.dr, fun u H u0 u1 g hD => ?_⟩
      have S := S.call g hD
      have hlp := g.up _ _ hlp
      refine ⟨(by show 13 ≤ sizeLine; decide), fun t ht => ?_⟩
      have ntp : p ≠ t := ne_of_none (S.ex _ _ hlp) ht
      have S := S.put (.lst [.int 0, .int 1, .int 64, .int 127, .int 128, .int 129, .int 144, .int 191, .int 192, .int 240, .int 255, .int 13, .int u]) ht
      have hlp : upd _ t (.lst [.int 0, .int 1, .int 64, .int 127, .int 128, .int 129, .int 144, .int 191, .int 192, .int 240, .int 255, .int 13, .int u]) p = some (.lst (nums l)) := (upd_ne ntp).trans hlp
      refine ⟨d, t, _, _, rfl, S.ex, S.dr, upd_same, (by show 0 < 13; decide), (by show 13 ≤ 1000000000; decide), fun k v H hk g hD => ?_⟩
      have S := S.call g hD
      have hlp := g.up _ _ hlp
      obtain ⟨b, rfl, hb256⟩ : ∃ b : Nat, v = .int (b : Int) ∧ b < 256 := by
        have hv := List.mem_of_getElem? hk
        simp only [List.mem_cons, List.mem_nil_iff, or_false] at hv
        rcases hv with rfl | rfl | rfl | rfl | rfl | rfl | rfl | rfl | rfl | rfl | rfl | rfl | rfl
        · exact ⟨0, rfl, by decide⟩
        · exact ⟨1, rfl, by decide⟩
        · exact ⟨64, rfl, by decide⟩
        · exact ⟨127, rfl, by decide⟩
        · exact ⟨128, rfl, by decide⟩
        · exact ⟨129, rfl, by decide⟩
        · exact ⟨144, rfl, by decide⟩
        · exact ⟨191, rfl, by decide⟩
        · exact ⟨192, rfl, by decide⟩
        · exact ⟨240, rfl, by decide⟩
        · exact ⟨255, rfl, by decide⟩
        · exact ⟨13, rfl, by decide⟩
        · exact ⟨u.toNat, by rw [Int.toNat_of_nonneg u0], by omega⟩
      -- kind = pick(draw, 6)
      refine ⟨_, rfl, d, 6, _, rfl, by decide, by decide, S.ex, S.dr, fun w7 H w70 w71 g hD => ?_⟩
      have S := S.call g hD
      have hlp := g.up _ _ hlp
      have e2 : 2 ^ (i + 1) = 2 * 2 ^ i := by rw [Nat.pow_succ, Nat.mul_comm]
      have pw : 0 < 2 ^ i := Nat.pow_pos (by decide)
      have big : 2 * l.length + 1 + 1 ≤ (row.length + 1) * 2 ^ (i + 1) := by
        rw [e2, Nat.mul_left_comm]
        omega
      -- what each branch ends with
      have fin : ∀ (v3 v4 v5 v6 : Option V) (G H' : Hp) (p1 : Addr) (l1 : List Nat), Sd d H0 B G H' → H' p1 = none → l1.length ≤ 2 * l.length + 1 → (∀ b ∈ l1, b < 256) →
          ∃ (v3' v4' v5' v6' : Option V) (p : Addr) (l : List Nat) (G0 : Hp), ([some (.ref d), some (.ref r), some (.ref p1), v3, v4, v5, v6] : L2.St) = [some (.ref d), some (.ref r), some (.ref p), v3', v4', v5', v6'] ∧ Sd d H0 B G0 (upd H' p1 (.lst (nums l1))) ∧ B p = none ∧ G0 p = some (.lst (nums l)) ∧ l.length + 1 ≤ (row.length + 1) * 2 ^ (i + 1) ∧ (∀ b ∈ l, b < 256) :=
        fun v3 v4 v5 v6 G H' p1 l1 S' h1 hl1 hb1 => ⟨v3, v4, v5, v6, p1, l1, _, rfl, S'.put _ h1, S'.go.fresh h1, upd_same, by omega, hb1⟩
      obtain ⟨la, ea, na, ma⟩ := cut_nums l none (some x)
      obtain ⟨lb, eb, nb, mb⟩ := cut_nums l (some x) none
      obtain ⟨lc, ec, nc, mc⟩ := cut_nums l (some (x + 1)) none
      have ba : ∀ z ∈ la, z < 256 := fun z h => hlb z (ma z h)
      have bb : ∀ z ∈ lb, z < 256 := fun z h => hlb z (mb z h)
      have bc : ∀ z ∈ lc, z < 256 := fun z h => hlb z (mc z h)
      refine ⟨_, rfl, rfl, _, rfl, ifD (fun c => ?_) (fun c => ?_)⟩
      · refine ⟨_, rfl, _, rfl, _, rfl, p, _, rfl, SqL.of (S.ex _ _ hlp), fun p1 h1 => ?_⟩
        rw [ea]
        exact fin _ _ _ _ _ _ p1 la S h1 (by omega) ba
      refine ⟨_, rfl, rfl, _, rfl, ifD (fun c => ?_) (fun c => ?_)⟩
      · refine ⟨_, rfl, _, rfl, _, rfl, p, _, rfl, SqL.of (S.ex _ _ hlp), fun p1 h1 => ?_⟩
        rw [ea]
        have n1 := S.ex.free h1
        have S1 := S.put (.lst (nums la)) h1
        have hlp1 := up_put (o := .lst (nums la)) n1 hlp
        refine ⟨_, rfl, _, rfl, _, _, rfl, rfl, _, rfl, p, _, rfl, SqL.of (S1.ex _ _ hlp1), fun p2 h2 => ?_⟩
        rw [ec]
        have n2 := S1.ex.free h2
        have S2 := S1.put (.lst (nums lc)) h2
        have h12 := up_put (o := .lst (nums lc)) n2 (upd_same (H := _) (a := p1) (o := .lst (nums la)))
        refine ⟨p1, p2, _, _, rfl, rfl, S2.ex _ _ h12, upd_same, mem_sz (by rw [nums_len, nums_len]; omega), fun p3 h3 => ?_⟩
        rw [← nums_app]
        exact fin _ _ _ _ _ _ p3 (la ++ lc) S2 h3 (by rw [List.length_append]; omega) (fun z h => (List.mem_append.mp h).elim (ba z) (bc z))
      refine ⟨_, rfl, rfl, _, rfl, ifD (fun c => ?_) (fun c => ?_)⟩
      · refine ⟨_, rfl, _, rfl, _, rfl, p, _, rfl, SqL.of (S.ex _ _ hlp), fun p1 h1 => ?_⟩
        rw [ea]
        have n1 := S.ex.free h1
        have S1 := S.put (.lst (nums la)) h1
        have hlp1 := up_put (o := .lst (nums la)) n1 hlp
        refine ⟨_, rfl, (by show 1 ≤ sizeLine; decide), fun p2 h2 => ?_⟩
        have n2 := S1.ex.free h2
        have S2 := S1.put (.lst [.int (b : Int)]) h2
        have hlp2 := up_put (o := .lst [.int (b : Int)]) n2 hlp1
        have h12 := up_put (o := .lst [.int (b : Int)]) n2 (upd_same (H := _) (a := p1) (o := .lst (nums la)))
        refine ⟨p1, p2, _, _, rfl, rfl, S2.ex _ _ h12, upd_same, mem_sz (by rw [nums_len]; show _ + 1 ≤ _; omega), fun p3 h3 => ?_⟩
        have e3 : nums la ++ [V.int (b : Int)] = nums (la ++ [b]) := (nums_snoc la b).symm
        rw [e3]
        have n3 := S2.ex.free h3
        have S3 := S2.put (.lst (nums (la ++ [b]))) h3
        have hlp3 := up_put (o := .lst (nums (la ++ [b]))) n3 hlp2
        refine ⟨_, rfl, _, rfl, _, rfl, p, _, rfl, SqL.of (S3.ex _ _ hlp3), fun p4 h4 => ?_⟩
        rw [eb]
        have n4 := S3.ex.free h4
        have S4 := S3.put (.lst (nums lb)) h4
        have h34 := up_put (o := .lst (nums lb)) n4 (upd_same (H := _) (a := p3) (o := .lst (nums (la ++ [b]))))
        refine ⟨p3, p4, _, _, rfl, rfl, S4.ex _ _ h34, upd_same, mem_sz (by rw [nums_len, nums_len, List.length_append]; show _ + 1 + _ ≤ _; omega), fun p5 h5 => ?_⟩
        rw [← nums_app]
        exact fin _ _ _ _ _ _ p5 (la ++ [b] ++ lb) S4 h5 (by rw [List.length_append, List.length_append]; show _ + 1 + _ ≤ _; omega) (fun z h => (List.mem_append.mp h).elim (fun h => (List.mem_append.mp h).elim (ba z) fun h => by rw [List.mem_singleton.mp h]; exact hb256) (bb z))
      refine ⟨_, rfl, rfl, _, rfl, ifD (fun c => ?_) (fun c => ?_)⟩
      · refine ⟨_, rfl, _, rfl, (by show 1 ≤ sizeLine; decide), fun p2 h2 => ?_⟩
        have n2 := S.ex.free h2
        have S2 := S.put (.lst [.int (b : Int)]) h2
        have hlp2 := up_put (o := .lst [.int (b : Int)]) n2 hlp
        refine ⟨p, p2, _, _, rfl, rfl, S2.ex _ _ hlp2, upd_same, mem_sz (by rw [nums_len]; show _ + 1 ≤ _; omega), fun p3 h3 => ?_⟩
        have e3 : nums l ++ [V.int (b : Int)] = nums (l ++ [b]) := (nums_snoc l b).symm
        rw [e3]
        exact fin _ _ _ _ _ _ p3 (l ++ [b]) S2 h3 (by rw [List.length_append]; show _ + 1 ≤ _; omega) (fun z h => (List.mem_append.mp h).elim (hlb z) fun h => by rw [List.mem_singleton.mp h]; exact hb256)
      · refine ⟨_, rfl, _, rfl, _, rfl, p, _, rfl, SqL.of (S.ex _ _ hlp), fun p1 h1 => ?_⟩
        rw [ea]
        have n1 := S.ex.free h1
        have S1 := S.put (.lst (nums la)) h1
        have hlp1 := up_put (o := .lst (nums la)) n1 hlp
        refine ⟨_, rfl, (by show 1 ≤ sizeLine; decide), fun p2 h2 => ?_⟩
        have n2 := S1.ex.free h2
        have S2 := S1.put (.lst [.int (b : Int)]) h2
        have hlp2 := up_put (o := .lst [.int (b : Int)]) n2 hlp1
        have h12 := up_put (o := .lst [.int (b : Int)]) n2 (upd_same (H := _) (a := p1) (o := .lst (nums la)))
        refine ⟨p1, p2, _, _, rfl, rfl, S2.ex _ _ h12, upd_same, mem_sz (by rw [nums_len]; show _ + 1 ≤ _; omega), fun p3 h3 => ?_⟩
        have e3 : nums la ++ [V.int (b : Int)] = nums (la ++ [b]) := (nums_snoc la b).symm
        rw [e3]
        have n3 := S2.ex.free h3
        have S3 := S2.put (.lst (nums (la ++ [b]))) h3
        have hlp3 := up_put (o := .lst (nums (la ++ [b]))) n3 hlp2
        refine ⟨_, rfl, _, rfl, _, _, rfl, rfl, _, rfl, p, _, rfl, SqL.of (S3.ex _ _ hlp3), fun p4 h4 => ?_⟩
        rw [ec]
        have n4 := S3.ex.free h4
        have S4 := S3.put (.lst (nums lc)) h4
        have h34 := up_put (o := .lst (nums lc)) n4 (upd_same (H := _) (a := p3) (o := .lst (nums (la ++ [b]))))
        refine ⟨p3, p4, _, _, rfl, rfl, S4.ex _ _ h34, upd_same, mem_sz (by rw [nums_len, nums_len, List.length_append]; show _ + 1 + _ ≤ _; omega), fun p5 h5 => ?_⟩
        rw [← nums_app]
        exact fin _ _ _ _ _ _ p5 (la ++ [b] ++ lc) S4 h5 (by rw [List.length_append, List.length_append]; show _ + 1 + _ ≤ _; omega) (fun z h => (List.mem_append.mp h).elim (fun h => (List.mem_append.mp h).elim (ba z) fun h => by rw [List.mem_singleton.mp h]; exact hb256) (bc z))
    · rintro σ H ⟨v3, v4, v5, v6, p, l, G0, rfl, S, hp, hlp, hln, hlb⟩
      refine ⟨_, rfl, q p l _ _ S.go S.dr hp hlp ?_ hlb⟩
      have : 2 ^ (1 + n) ≤ 4 := Nat.le_trans (Nat.pow_le_pow_right (by decide) (show 1 + n ≤ 2 by omega)) (by decide)
      have := Nat.mul_le_mul_left (row.length + 1) this
      omega
end
end Rt

namespace Rt
open PySem PySem.Spec PyProof.Rows L2

section
variable {P : Program} {w : World} {K : PySem.W.Frag} {mg : Str → Option Value} {base : Heap}
abbrev s_gap_state : Stmt := topS 13
theorem sc_gap_state : FnScope ["_law_row", "_law_at", "_law_least", "_law_most", "_law_number", "_law_place"] ["_law_row", "_law_at", "_law_least", "_law_most"] (defScope s_gap_state) := ⟨rfl, rfl, rfl, by decide +kernel, rfl, by decide +kernel, by decide +kernel⟩
/-- the law's own reading of a number -/
def spGapState : Sp := fun vs H Q _ => ∃ (r : Addr) (row : List Nat) (at_ : Nat) (H0 : Hp), vs = [.ref r, .int (at_ : Int), .int 0, .int 268435455] ∧ Ex H0 H ∧ H0 r = some (.lst (nums row)) ∧ at_ ≤ row.length ∧ row.length ≤ 1000000 ∧ (∀ b ∈ row, b < 256) ∧
  ∀ (n pl : Nat) (ok : Bool) (p : Addr) (H' : Hp), rdAt row at_ = (n, pl, ok) → Go (fun _ => False) H0 H H0 H' → H p = none → H' p = some (.tup [.int (n : Int), .int (pl : Int), .str (if ok = true then "" else "bad")]) → Q (.ref p) H'
theorem ok_gap_state {f : Addr} {fd : FuncData} (F : Fun K "_law_gap_state" "_law_gap_state" s_gap_state f fd) (m_len : mg "len" = none) (m_range : mg "range" = none) : FnOk P w K mg base CX0 1 f fd ["_law_row", "_law_at", "_law_least", "_law_most"] spGapState := by
  refine F.ok sc_gap_state (fun vs H Q E h => ?_) (fun cdv A outer s H vs Q E hr h => ?_)
  · obtain ⟨r, row, a, H0, rfl, _⟩ := h
    rfl
  · obtain ⟨r, row, a, H0, rfl, e0, hr0, ha, hl, hb, q⟩ := h
    refine ⟨_, (pss_cons (ps_set (i := 4) sc_gap_state.nd rfl (Or.inl rfl) pe_int)
      (pss_cons (ps_for PassesOwn.never rfl (pi_range2 rfl m_range (pa_cons (pv 1) (pa_cons (pe_callB call_len_seq (by rfl) m_len PySem.boot_len (pa_cons (pv 0) pa_nil)) pa_nil))) (pg_name (i := 5) sc_gap_state.nd rfl (Or.inl rfl)) (pss_cons (ps_set (i := 4) sc_gap_state.nd rfl (Or.inl rfl) (pe_op op_add (pe_op op_mul (pv 4) pe_int) (pe_op op_mod (pe_ix ix_list (pv 0) (pv 5) (fun _ _ => rfl)) pe_int)))
      (pss_cons (ps_if (pt_cmpR op_lt (pe_ix ix_list (pv 0) (pv 5) (fun _ _ => rfl)) pe_int (nomark _)) (pss_one (ps_ret (pe_ifExp (pt_chain op_le op_le (pv 2) (pv 4) (pv 3)) (pe_tup (pa_cons (pv 4) (pa_cons (pe_op op_add (pv 5) pe_int) (pa_cons pe_str pa_nil)))) (pe_tup (pa_cons pe_int (pa_cons (pv 5) (pa_cons pe_str pa_nil))))))) pss_nil)
      (pss_one (ps_if (PW.pt (pw_or (pt_cmpR op_eq (pv 4) pe_int (nomark _)) (pw_or (pt_cmpR op_eq (pe_op op_sub (pv 5) (pv 1)) pe_int (nomark _)) (pw_or1 (pt_cmpR op_gt (pe_op op_mul (pv 4) pe_int) (pv 3) (nomark _)))))) (pss_one (ps_ret (pe_tup (pa_cons pe_int (pa_cons (pv 5) (pa_cons pe_str pa_nil)))))) pss_nil)))))
      (pss_one (ps_ret (pe_tup (pa_cons pe_int (pa_cons (pe_callB call_len_seq (by rfl) m_len PySem.boot_len (pa_cons (pv 0) pa_nil)) (pa_cons pe_str pa_nil)))))))), ?_⟩
    have hR : H r = some (.lst (nums row)) := e0 _ _ hr0
    have g0 : Go (fun _ => False) H0 H H0 H := Go.refl e0
    have nl : (((nums row).length : Int) - (a : Int)).toNat = row.length - a := by
      rw [nums_len]
      omega
    -- the answers
    have bad : ∀ pl : Nat, rdAt row a = (0, pl, false) → ∀ t, H t = none → Q (.ref t) (upd H t (.tup [.int 0, .int (pl : Int), .str "bad"])) := fun pl e t ht => q 0 pl false t _ e (g0.lay _ ht) ht upd_same
    have good : ∀ n pl : Nat, rdAt row a = (n, pl, true) → ∀ t, H t = none → Q (.ref t) (upd H t (.tup [.int (n : Int), .int (pl : Int), .str ""])) := fun n pl e t ht => q n pl true t _ e (g0.lay _ ht) ht upd_same
    refine ⟨_, rfl, _, rfl, r, _, rfl, .inl (SqL.of hR), (a : Int), ((nums row).length : Int), rfl, ⟨by omega, by omega, by omega, by rw [nums_len]; omega⟩, for_range (lo := (a : Int)) (n := (((nums row).length : Int) - (a : Int)).toNat) (fun k σ H' => ∃ (v : Option V) (num : Nat), k ≤ 3 ∧ σ = [some (.ref r), some (.int (a : Int)), some (.int 0), some (.int 268435455), some (.int (num : Int)), v] ∧ H' = H ∧ num < 128 ^ k ∧ (0 < k → 0 < num) ∧ rdG (row.drop (a + k)) k (a + k) num = rdAt row a) ?_ ?_ ?_⟩
    · exact ⟨none, 0, by decide, rfl, rfl, by decide, fun z => absurd z (by decide), rfl⟩
    · rintro k σ H' hk ⟨v, num, k3, rfl, rfl, hnum, hpos, hd⟩
      rw [nl] at hk
      have m64 : num < 2097152 := Nat.lt_of_lt_of_le hnum (Nat.le_trans (Nat.pow_le_pow_right (by decide) k3) (by decide))
      obtain ⟨b, hb'⟩ : ∃ b, row[a + k]? = some b := ⟨_, List.getElem?_eq_getElem (by omega)⟩
      have b256 := hb b (List.mem_of_getElem? hb')
      rw [drop_cons hb'] at hd
      have ep : (a : Int) + (k : Nat) = ((a + k : Nat) : Int) := by omega
      show gName 5 (V.int ((a : Int) + (k : Nat))) _ _ _
      rw [ep]
      -- number = number * 128 + row[place] % 128
      refine ⟨_, rfl, _, _, rfl, rfl, .inr ⟨by decide, by decide⟩, _, rfl, _, rfl, r, _, _, _, rfl, rfl, SqL.of hR, at_of (j := a + k) rfl (nums_at hb'), _, _, rfl, rfl, (by show (0 : Int) < 128; decide), _, _, rfl, rfl, ?_⟩
      have e1 : (num : Int) * 128 + (b : Int) % 128 = ((num * 128 + b % 128 : Nat) : Int) := by omega
      show gName 4 (V.int ((num : Int) * 128 + (b : Int) % 128)) _ _ _
      rw [e1]
      -- if row[place] < 128
      refine ⟨_, rfl, _, rfl, r, _, _, _, rfl, rfl, SqL.of hR, at_of (j := a + k) rfl (nums_at hb'), _, _, rfl, rfl, _, rfl, ifD (fun c => ?_) (fun c => ?_)⟩
      · have lb : b < 128 := by omega
        have hd1 : rdAt row a = (num * 128 + b % 128, a + k + 1, true) := by
          rw [← hd, Nat.mod_eq_of_lt lb]
          show (if b < 128 then _ else _) = _
          rw [if_pos lb]
        refine ⟨_, rfl, _, rfl, _, _, rfl, rfl, _, rfl, ifT (decide_eq_true (by omega)) ⟨_, rfl, _, _, rfl, rfl, _, rfl, ifT (decide_eq_true (by omega)) ?_⟩⟩
        refine ⟨_, rfl, _, rfl, _, _, rfl, rfl, (by show 3 ≤ sizeLine; decide), fun t ht => ?_⟩
        have := good _ _ hd1 t ht
        have e2 : (((a + k : Nat) : Int) + 1) = ((a + k + 1 : Nat) : Int) := by omega
        rw [← e2] at this
        exact this
      · have lb : ¬ b < 128 := by omega
        have hd1 : rdAt row a = (if (k = 0 ∧ b = 128) ∨ k = 3 then (0, a + k, false) else rdG (row.drop (a + k + 1)) (k + 1) (a + k + 1) (num * 128 + b - 128)) := by
          rw [← hd]
          show (if b < 128 then _ else _) = _
          rw [if_neg lb]
        have en : num * 128 + b % 128 = num * 128 + b - 128 := by omega
        have stop : ((k = 0 ∧ b = 128) ∨ k = 3) → ∀ t, H' t = none → Q (.ref t) (upd H' t (.tup [.int 0, .int ((a + k : Nat) : Int), .str "bad"])) := fun z => bad _ (by rw [hd1, if_pos z])
        have tup : ∀ (σ : L2.St), σ[5]? = some (some (V.int ((a + k : Nat) : Int))) → ((k = 0 ∧ b = 128) ∨ k = 3) → tRet (tTup (tCons (tC (.int 0)) (tCons (tVar 5) (tCons (tC (.str "bad")) tNil)))) { nx := fun _ _ => True, rt := Q } σ H' := fun σ h5 z =>
          ⟨_, h5, (by show 3 ≤ sizeLine; decide), fun t ht => stop z t ht⟩
        -- if number == 0 or place - at == 3 or number * 128 > most
        refine ⟨_, rfl, rfl, _, rfl, ifD (fun c1 => ?_) (fun c1 => ?_)⟩
        · have z : num * 128 + b % 128 = 0 := by
            have := V.int.inj c1
            omega
          have z1 : k = 0 := by
            by_cases h : 0 < k
            · have := hpos h
              omega
            · omega
          exact ⟨_, rfl, (by show 3 ≤ sizeLine; decide), fun t ht => stop (.inl ⟨z1, by omega⟩) t ht⟩
        refine ⟨_, rfl, _, rfl, _, _, rfl, rfl, rfl, _, rfl, ifD (fun c2 => ?_) (fun c2 => ?_)⟩
        · have z1 : k = 3 := by
            have := V.int.inj c2
            omega
          exact ⟨_, rfl, (by show 3 ≤ sizeLine; decide), fun t ht => stop (.inr z1) t ht⟩
        have kk : k ≤ 2 := by
          by_cases h : k = 3
          · exact absurd (congrArg V.int (by omega)) c2
          · omega
        have m14 : num < 16384 := Nat.lt_of_lt_of_le hnum (Nat.le_trans (Nat.pow_le_pow_right (by decide) kk) (by decide))
        refine ⟨_, rfl, _, _, rfl, rfl, .inr ⟨by decide, by decide⟩, _, rfl, _, _, rfl, rfl, _, rfl, ifF (decide_eq_false (by omega)) ?_⟩
        have nz : ¬ ((k = 0 ∧ b = 128) ∨ k = 3) := by
          rintro (z | z)
          · have z0 : num < 1 := by
              rw [z.1] at hnum
              exact hnum
            exact c1 (by congr 1; omega)
          · omega
        refine ⟨_, _, by omega, rfl, rfl, ?_, fun _ => ?_, ?_⟩
        · have e3 : 128 ^ (k + 1) = 128 ^ k * 128 := Nat.pow_succ 128 k
          omega
        · show 0 < num * 128 + b % 128
          by_cases h : 0 < k
          · have := hpos h
            omega
          · have : b ≠ 128 := fun z => nz (.inl ⟨by omega, z⟩)
            omega
        · rw [hd1, if_neg nz, en]
          rfl
    · rintro σ H' ⟨v, num, k3, rfl, rfl, hnum, hpos, hd⟩
      rw [nl, drop_nil (by omega)] at hd
      have hd1 : rdAt row a = (0, row.length, false) := by
        rw [← hd]
        show (0, a + (row.length - a), false) = _
        rw [show a + (row.length - a) = row.length by omega]
      refine ⟨_, rfl, r, _, rfl, .inl (SqL.of hR), (by show 3 ≤ sizeLine; decide), fun t ht => ?_⟩
      have := bad _ hd1 t ht
      rw [← nums_len row] at this
      exact this
end
end Rt

namespace Rt
open PySem PySem.Spec PyProof.Rows L2

section
variable {P : Program} {w : World} {K : PySem.W.Frag} {mg : Str → Option Value} {base : Heap}
abbrev s_bytes_word : Stmt := topS 15
theorem sc_bytes_word : FnScope ["_law_ask", "_law_found", "_law_at", "e"] ["_law_ask"] (defScope s_bytes_word) := ⟨rfl, rfl, rfl, by decide +kernel, rfl, by decide +kernel, by decide +kernel⟩
/-- what _law_bytes_word makes of its lambda: a new pair (what is told, -1) or (None, the place) -/
def TWord (K : PySem.W.Frag) (mg : Str → Option Value) : (XK → Hp → VK → Prop) → Hp → VK → Prop := fun tl H Q =>
  tl (fun cls d H' => ∃ (n : Int) (Hb : Hp), RaisedA K mg n Hb cls d H' ∧ ∀ p, H' p = none → Q (.ref p) (upd H' p (.tup [.non, .int n]))) H
    (fun v H' => ∀ p, H' p = none → Q (.ref p) (upd H' p (.tup [v, .int (-1)])))
theorem asks_word {X : Cx} {g CB : Addr} {cdg : Value} {q : Str} (g1 : X.mg "BadBytes" = some (.ref CB)) (m1 : PySem.W.exmOne X.K (.ref CB) (.ref CB) = some true) :
    Asks X ["_law_ask", "_law_found", "_law_at", "e"] "_law_bytes_word" (defScope s_bytes_word) g cdg (defBody s_bytes_word) "_law_ask" q (TWord X.K X.mg) := by
  intro f c' s H Q tl act hc h
  refine ⟨_, pss_cons (ps_set (i := 1) sc_bytes_word.nd rfl (Or.inl rfl) pe_non) (pss_cons (ps_set (i := 2) sc_bytes_word.nd rfl (Or.inl rfl) (pe_un un_neg pe_int))
    (pss_cons (ps_try_all (i := 3) (tb := fun W => tAsg (fun τ G Q => τ[0]? = some (some (.ref f)) ∧ G c' = some (LamX.CodeO c' q) ∧ ∃ (Ec : XK) (R : VK), (∀ cls d G', Ec cls d G' → W cls d τ G') ∧ (∀ v G', R v G' → Q v G') ∧ tl Ec G R) (gName 1)) (W0 := fun _ _ _ _ => False)
        rfl rfl sc_bytes_word.nd rfl rfl takes0 (fun W pn xe tk _ => pss_one (ps_set (i := 1) sc_bytes_word.nd rfl (Or.inl rfl) (act W pn xe _ _ tk)))
        (.cons (c := .ref CB) ⟨rfl, by decide, .inl g1⟩ (fun a oe cls d pn hz hf => pss_one (ps_set (i := 2) sc_bytes_word.nd rfl (Or.inl rfl) (pe_xfA hz hf (pv 3)))) .nil))
      (pss_one (ps_ret (pe_tup (pa_cons (pv 1) (pa_cons (pv 2) pa_nil))))))), ?_⟩
  refine ⟨_, rfl, rfl, hc, _, _, ?_, ?_, h⟩
  · rintro cls d G' ⟨n, Hb, R, k⟩
    obtain ⟨C, dd, h1, rfl, rfl, hdd, rfl, xf, nc, na⟩ := R.ex
    obtain rfl : C = CB := by rw [h1] at g1; cases g1; rfl
    refine ⟨true, m1, fun _ a ha => ?_, fun z => nomatch z⟩
    exact ⟨C, xf, na, _, rfl, rfl, rfl, dd, _, _, rfl, upd_same, rfl, _, rfl, _, rfl, (by show 2 ≤ sizeLine; decide), fun p hp => k p hp⟩
  · intro v G' hv
    exact ⟨_, rfl, _, rfl, (by show 2 ≤ sizeLine; decide), fun p hp => hv p hp⟩
end
end Rt

namespace Rt
open PySem PySem.Spec PyProof.Rows L2

section
variable {P : Program} {w : World} {K : PySem.W.Frag} {mg : Str → Option Value} {base : Heap}
abbrev s_law_k02 : Stmt := topS 16
theorem sc_law_k02 : FnScope ["_law_script", "_law_draw", "_law_turn", "_law_row", "_law_k", "_law_handed", "_law_at", "_law_number", "_law_place", "_law_word", "_law_due"] ["_law_script"] (defScope s_law_k02) := ⟨rfl, rfl, rfl, by decide +kernel, rfl, by decide +kernel, by decide +kernel⟩
def spLaw (K : PySem.W.Frag) (T : List (Addr × Str)) : Sp := fun vs H Q _ => ∃ (a : Addr) (ns : List Int), vs = [.ref a] ∧ SqL K H a (ns.map V.int) ∧ LamX.Tabs T H ∧ ∀ H', Q (.bl true) H'
/-- what is due at a place -/
def dueA (x : Nat × Nat × Bool) : PyData := if x.2.2 = true then .tuple [.tuple [.int (x.1 : Int), .int (x.2.1 : Int)], .int (-1)] else .tuple [.none, .int (x.2.1 : Int)]
theorem dueA_ok (x : Nat × Nat × Bool) : (dueA x).depth ≤ 2 ∧ smA (dueA x) := by
  unfold dueA
  by_cases h : x.2.2 = true
  · rw [if_pos h]
    exact ⟨by show max (max 0 (max 0 0) + 1) (max 0 0) + 1 ≤ 2; decide, (by show 2 ≤ 100000; decide), ⟨(by show 2 ≤ 100000; decide), True.intro, True.intro, True.intro⟩, True.intro, True.intro⟩
  · rw [if_neg h]
    exact ⟨by show max 0 (max 0 0) + 1 ≤ 2; decide, (by show 2 ≤ 100000; decide), True.intro, True.intro, True.intro⟩
theorem rdG_bad : ∀ (l : List Nat) (k a num n pl : Nat), rdG l k a num = (n, pl, false) → n = 0
  | [], k, a, num, n, pl, h => by
    have : (0, a, false) = (n, pl, false) := h
    cases this
    rfl
  | b :: l, k, a, num, n, pl, h => by
    have h' : (if b < 128 then (num * 128 + b, a + 1, true) else if (k = 0 ∧ b = 128) ∨ k = 3 then (0, a, false) else rdG l (k + 1) (a + 1) (num * 128 + b - 128)) = (n, pl, false) := h
    by_cases h1 : b < 128
    · rw [if_pos h1] at h'
      cases h'
    · rw [if_neg h1] at h'
      by_cases h2 : (k = 0 ∧ b = 128) ∨ k = 3
      · rw [if_pos h2] at h'
        cases h'
        rfl
      · rw [if_neg h2] at h'
        exact rdG_bad l _ _ _ n pl h'
def lamQ : Str := (envOfC "law" (defScope s_law_k02) 0 0 Value.none).qual ++ "<lambda>"
open LamX in
theorem ok_law {f cc tb gWr CB : Addr} {fd fdW : FuncData} (F : Fun K "law" "law" s_law_k02 f fd) (hcode : fd.code = .ref cc) (TB : TabB base mg cc tb) (D__law_begin : Def P w K mg base "_law_begin" 1 (spBegin K)) (D__law_pick : Def P w K mg base "_law_pick" 1 spPick)
    (D__law_gap : Def P w K mg base "_law_gap" 1 spGapBytes) (D__law_bent_bytes : Def P w K mg base "_law_bent_bytes" 3 spBent) (D__law_gap_state : Def P w K mg base "_law_gap_state" 1 spGapState)
    (D_gap_read : DefX P w K mg base "gap_read" 4 (spGapReadX K mg)) (D_gap_read1 : DefXd P w K mg base "gap_read" 4 (spGapReadX K mg) [.int 0]) (D__law_same : Def P w K mg base "_law_same" 3 (spSame K 2))
    (FW : Fun K "_law_bytes_word" "_law_bytes_word" s_bytes_word gWr fdW) (gW : mg "_law_bytes_word" = some (.ref gWr)) (bW0 : L2.Binds K fdW ["_law_ask"] []) (g1 : mg "BadBytes" = some (.ref CB)) (m1 : PySem.W.exmOne K (.ref CB) (.ref CB) = some true)
    (m_range : mg "range" = none) (m_len : mg "len" = none) (m_list : mg "list" = none) : FnOk P w K mg base CX0 7 f fd ["_law_script"] (spLaw K [(tb, lamQ)]) := by
  obtain ⟨ocW, odW, kVW, docW, pmW, anW, cdW, ctW, slW, rfl, lkW, hcW⟩ := id FW.ex
  have bW := bW0
  refine okC F hcode sc_law_k02 (fun vs H Q E h => ?_) (fun A outer s H vs Q E hr h => ?_)
  · obtain ⟨a, ns, rfl, _⟩ := h
    rfl
  · obtain ⟨a, ns, rfl, hS, hT, q⟩ := h
    refine ⟨_, (pss_cons (ps_set (i := 1) sc_law_k02.nd rfl (Or.inl rfl) (pe_d D__law_begin (hr.mono (by decide)) rfl (pa_cons (pv 0) pa_nil)))
      (pss_cons (ps_for PassesOwn.never rfl (pi_range1 rfl m_range (pa_cons pe_int pa_nil)) (pg_name (i := 2) sc_law_k02.nd rfl (Or.inl rfl)) (pss_cons (ps_set (i := 3) sc_law_k02.nd rfl (Or.inl rfl) (pe_lst pa_nil))
      (pss_cons (ps_for PassesOwn.never rfl (pi_range1 rfl m_range (pa_cons (pe_d D__law_pick (hr.mono (by decide)) rfl (pa_cons (pv 1) (pa_cons pe_int pa_nil))) pa_nil)) (pg_name (i := 4) sc_law_k02.nd rfl (Or.inl rfl)) (pss_one (ps_set (i := 3) sc_law_k02.nd rfl (Or.inl rfl) (pe_op op_cat (pv 3) (pe_d D__law_gap (hr.mono (by decide)) rfl (pa_cons (pe_ix ix_tup (pe_tup (pa_cons (pe_d D__law_pick (hr.mono (by decide)) rfl (pa_cons (pv 1) (pa_cons pe_int pa_nil))) (pa_cons (pe_d D__law_pick (hr.mono (by decide)) rfl (pa_cons (pv 1) (pa_cons pe_int pa_nil))) pa_nil))) (pe_d D__law_pick (hr.mono (by decide)) rfl (pa_cons (pv 1) (pa_cons pe_int pa_nil))) (fun _ _ => rfl)) pa_nil))))))
      (C8.pss_cut (ps_if (pt_cmpR op_eq (pe_d D__law_pick (hr.mono (by decide)) rfl (pa_cons (pv 1) (pa_cons pe_int pa_nil))) pe_int (nomark _)) (pss_one (ps_set (i := 3) sc_law_k02.nd rfl (Or.inl rfl) (pe_d D__law_bent_bytes (hr.mono (by decide)) rfl (pa_cons (pv 1) (pa_cons (pv 3) pa_nil))))) pss_nil)
      (pss_cons (ps_set (i := 5) sc_law_k02.nd rfl (Or.inr rfl) (pe_callTy call_list_of (by rfl) m_list bt_list (pa_cons (pv 3) pa_nil)))
      (pss_cons (ps_for PassesOwn.never rfl (pi_range1 rfl m_range (pa_cons (pe_op op_add (pe_callB call_len_seq (by rfl) m_len PySem.boot_len (pa_cons (pv 3) pa_nil)) pe_int) pa_nil)) (pg_name (i := 6) sc_law_k02.nd rfl (Or.inr rfl)) (pss_cons (ps_asg (pe_d D__law_gap_state (hr.mono (by decide)) rfl (pa_cons (pv 3) (pa_cons (pv 6) (pa_cons pe_int (pa_cons pe_int pa_nil))))) (pg_tup rfl (pgs_cons (pg_name (i := 7) sc_law_k02.nd rfl (Or.inl rfl)) (pgs_cons (pg_name (i := 8) sc_law_k02.nd rfl (Or.inl rfl)) (pgs_cons (pg_name (i := 9) sc_law_k02.nd rfl (Or.inl rfl)) pgs_nil)))))
      (C8.pss_cut (ps_set (i := 10) sc_law_k02.nd rfl (Or.inl rfl) (pe_ifExp (pt_cmpR op_eq (pv 9) pe_str (nomark _)) (pe_tup (pa_cons (pe_tup (pa_cons (pv 7) (pa_cons (pv 8) pa_nil))) (pa_cons (pe_un un_neg pe_int) pa_nil))) (pe_tup (pa_cons pe_non (pa_cons (pv 8) pa_nil)))))
      (pss_cons (ps_if (pt_not (pt_val (pe_d D__law_same (hr.mono (by decide)) rfl (pa_cons (pe_up (pe_asks (T := [(tb, lamQ)]) rfl gW FW.kp lkW hcW bW sc_bytes_word rfl (Or.inl rfl) (asks_word g1 m1) TB rfl (List.mem_singleton.mpr rfl) (fun p hp _ => by have e := List.mem_singleton.mp hp; subst e; rfl) (hr.mono (by decide)) (show LamX.LamS (defScope s_law_k02) _ from lamS_by (by decide +kernel)) rfl (fun _ _ _ _ _ => rfl) (fun E A outer s H f c2 hr2 => pe_dx D_gap_read hr2 rfl (takes_of rfl rfl rfl rfl) (pa_cons (pv 5) (pa_cons (pv 6) pa_nil))))) (pa_cons (pv 10) pa_nil))))) (pss_one (ps_ret pe_bl)) pss_nil)
      (pss_one (ps_if (PW.pt (pw_and (pt_cmpR op_eq (pv 6) pe_int (nomark _)) (pw_and1 (pt_not (pt_val (pe_d D__law_same (hr.mono (by decide)) rfl (pa_cons (pe_up (pe_asks (T := [(tb, lamQ)]) rfl gW FW.kp lkW hcW bW sc_bytes_word rfl (Or.inl rfl) (asks_word g1 m1) TB rfl (List.mem_singleton.mpr rfl) (fun p hp _ => by have e := List.mem_singleton.mp hp; subst e; rfl) (hr.mono (by decide)) (show LamX.LamS (defScope s_law_k02) _ from lamS_by (by decide +kernel)) rfl (fun _ _ _ _ _ => rfl) (fun E A outer s H f c2 hr2 => pe_dxd D_gap_read1 hr2 rfl (takes_of rfl rfl rfl rfl) (pa_cons (pv 5) pa_nil)))) (pa_cons (pv 10) pa_nil)))))))) (pss_one (ps_ret pe_bl)) pss_nil))))))
      (pss_one (ps_if (pt_cmpR (op_neD hr.units) (pv 5) (pv 3) (nomark _)) (pss_one (ps_ret pe_bl)) pss_nil))))))))
      (pss_one (ps_ret pe_bl)))), ?_⟩
    -- draw = begin(script)
    refine ⟨_, rfl, a, ns, fun _ => none, rfl, hS, (fun b o z => by cases z), fun d H0 H1 gA hD _ => ?_⟩
    have hT := hT.ext fun b o h => gA.keep b o h fun z => z
    obtain ⟨A0, eA, dA, nA⟩ := hD.least gA.inn
    clear gA hS hD
    -- for turn in range(3)
    refine ⟨3, rfl, by decide, by decide, for_range (lo := 0) (n := 3) (fun i σ H' => ∃ (v2 v3 v4 v5 v6 v7 v8 v9 v10 : Option V) (A0 : Hp), σ = [some (.ref a), some (.ref d), v2, v3, v4, v5, v6, v7, v8, v9, v10] ∧ Ex A0 H' ∧ Dr A0 H' d ∧ NoTab A0 ∧ Tabs [(tb, lamQ)] H')
      ⟨none, none, none, none, none, none, none, none, none, A0, rfl, eA, dA, nA, hT⟩ ?_ ?_⟩
    · clear hT eA dA nA A0
      rintro i σ H hi ⟨v2, v3, v4, v5, v6, v7, v8, v9, v10, A0, rfl, eA, dA, nA, hT⟩
      -- row = []
      refine ⟨(by show 0 ≤ sizeLine; decide), fun p0 hp0 => ?_⟩
      have S := (Sd.here eA dA).put (.lst []) hp0
      have hT := tabs_new (o := .lst []) hT hp0
      have nA := nA.upd (p := p0) (o := .lst []) (fun ps z => nomatch z)
      -- for k in range(pick(draw, 6))
      refine ⟨_, rfl, d, 6, _, rfl, by decide, by decide, S.ex, S.dr, fun x H x0 x1 g hD => ?_⟩
      have hT := tabs_go hT S.dr g
      have S := S.call g hD
      have hp0 := g.up p0 _ upd_same
      obtain ⟨n, rfl⟩ : ∃ n : Nat, x = (n : Int) := ⟨x.toNat, by omega⟩
      refine ⟨_, rfl, by omega, by omega, for_range (lo := 0) (n := n) (fun j σ H' => ∃ (v4 : Option V) (p : Addr) (l : List Nat) (A0 : Hp), σ = [some (.ref a), some (.ref d), some (.int (0 + (i : Int))), some (.ref p), v4, v5, v6, v7, v8, v9, v10] ∧ A0 p = some (.lst (nums l)) ∧ l.length ≤ 4 * j ∧ (∀ b ∈ l, b < 256) ∧ Ex A0 H' ∧ Dr A0 H' d ∧ Tabs [(tb, lamQ)] H')
        ⟨v4, p0, [], _, rfl, hp0, Nat.zero_le _, (fun b h => nomatch h), S.ex, S.dr, hT⟩ ?_ ?_⟩
      · clear hT S hp0 hD g
        rintro j σ H hj ⟨v4, p, l, A0, rfl, hpl, ll, lb, eA, dA, hT⟩
        have S := Sd.here eA dA
        -- row = row + gap((pick(draw, 200), pick(draw, 268435456))[pick(draw, 2)])
        refine ⟨_, rfl, _, rfl, d, 200, _, rfl, by decide, by decide, S.ex, S.dr, fun u1 H u10 u11 g hD => ?_⟩
        have hT := tabs_go hT S.dr g
        have S := S.call g hD
        have hpl := g.up _ _ hpl
        refine ⟨_, rfl, d, 268435456, _, rfl, by decide, by decide, S.ex, S.dr, fun u2 H u20 u21 g hD => ?_⟩
        have hT := tabs_go hT S.dr g
        have S := S.call g hD
        have hpl := g.up _ _ hpl
        refine ⟨(by show 2 ≤ sizeLine; decide), fun t ht => ?_⟩
        have hpl := up_put (o := .tup [.int u1, .int u2]) (S.ex.free ht) hpl
        have hT := tabs_new (o := .tup [.int u1, .int u2]) hT ht
        have S := S.put (.tup [.int u1, .int u2]) ht
        refine ⟨_, rfl, d, 2, _, rfl, by decide, by decide, S.ex, S.dr, fun u3 H u30 u31 g hD => ?_⟩
        have hT := tabs_go hT S.dr g
        have S := S.call g hD
        have hpl := g.up _ _ hpl
        have htt := g.up t _ upd_same
        obtain ⟨m, hm, em⟩ : ∃ m : Nat, m < 268435456 ∧ [V.int u1, V.int u2][u3.toNat]? = some (.int (m : Int)) := by
          by_cases z : u3 = 0
          · exact ⟨u1.toNat, by omega, by rw [z, Int.toNat_of_nonneg u10]; rfl⟩
          · have z1 : u3 = 1 := by omega
            exact ⟨u2.toNat, by omega, by rw [z1, Int.toNat_of_nonneg u20]; rfl⟩
        refine ⟨t, _, _, _, rfl, rfl, SqT.of (S.ex _ _ htt), at_of (j := u3.toNat) (by omega) em, ?_⟩
        refine ⟨m, _, rfl, hm, S.ex, fun p1 H1 g1 hp1 hp2 => ?_⟩
        have hT := hT.ext fun b o h => g1.keep b o h fun z => z
        have hpl1 := g1.inn _ _ hpl
        refine ⟨p, p1, _, _, rfl, rfl, hpl1, hp2, mem_sz (by rw [nums_len, nums_len]; have := gapB_len hm; omega), fun p2 h2 => ?_⟩
        rw [← nums_app]
        have S1 := (S.pure g1).put (.lst (nums (l ++ gapB m))) h2
        refine ⟨_, p2, l ++ gapB m, _, rfl, upd_same, ?_, fun b h => (List.mem_append.mp h).elim (lb b) (gapB_all m b), S1.ex, S1.dr, tabs_new hT h2⟩
        have := gapB_len hm
        rw [List.length_append]
        omega
      · clear hT S hp0 hD g
        rintro σ H ⟨v4, p, l, A0, rfl, hpl, ll, lb, eA, dA, hT⟩
        have S := Sd.here eA dA
        -- if pick(draw, 2) == 0: row = bent(draw, row)
        refine ⟨fun σ H' => ∃ (p : Addr) (l : List Nat) (A0 : Hp), σ = [some (.ref a), some (.ref d), some (.int (0 + (i : Int))), some (.ref p), v4, v5, v6, v7, v8, v9, v10] ∧ A0 p = some (.lst (nums l)) ∧ l.length ≤ 1000 ∧ (∀ b ∈ l, b < 256) ∧ Ex A0 H' ∧ Dr A0 H' d ∧ NoTab A0 ∧ Tabs [(tb, lamQ)] H', ?_, ?_⟩
        · refine ⟨_, rfl, d, 2, _, rfl, by decide, by decide, S.ex, S.dr, fun u H u0 u1 g hD => ?_⟩
          have hT := tabs_go hT S.dr g
          have S := S.call g hD
          have hpl := g.up _ _ hpl
          refine ⟨rfl, _, rfl, ifD (fun c => ?_) (fun c => ?_)⟩
          · refine ⟨_, rfl, _, rfl, d, p, l, _, rfl, S.ex, S.dr, hpl, by omega, lb, fun p1 l1 G0 H1 g1 hD1 hp1 hq1 ll1 lb1 => ?_⟩
            have hT := tabs_go hT S.dr g1
            exact ⟨p1, l1, clean G0, rfl, clean_at hq1 (fun ps z => nomatch z), by omega, lb1, clean_ex g1.inn, clean_dr hD1, clean_no _, hT⟩
          · exact ⟨p, l, clean _, rfl, clean_at hpl (fun ps z => nomatch z), by omega, lb, clean_ex S.ex, clean_dr S.dr, clean_no _, hT⟩
        · clear hT S
          rintro σ H ⟨p, l, A0, rfl, hpl, ll, lb, eA, dA, nA, hT⟩
          -- handed = list(row)
          refine ⟨.ref p, rfl, p, _, rfl, .inl (SqL.of (eA _ _ hpl)), fun hd hh => ?_⟩
          have hhd : upd A0 hd (.lst (nums l)) hd = some (.lst (nums l)) := upd_same
          have hpl := up_put (o := .lst (nums l)) (eA.free hh) hpl
          have S := (Sd.here eA dA).put (.lst (nums l)) hh
          have hT := tabs_new (o := .lst (nums l)) hT hh
          have nA := nA.upd (p := hd) (o := .lst (nums l)) (fun ps z => nomatch z)
          have eA := S.ex
          have dA := S.dr
          clear S
          -- for at in range(len(row) + 1)
          refine ⟨_, rfl, p, _, rfl, .inl (SqL.of (eA _ _ hpl)), _, _, rfl, rfl, _, rfl, by rw [nums_len]; omega, by rw [nums_len]; omega, for_range (lo := 0) (n := (nums l).length + 1) (fun k σ H' => ∃ (v6 v7 v8 v9 v10 : Option V) (A1 : Hp), σ = [some (.ref a), some (.ref d), some (.int (0 + (i : Int))), some (.ref p), v4, some (.ref hd), v6, v7, v8, v9, v10] ∧ A1 p = some (.lst (nums l)) ∧ A1 hd = some (.lst (nums l)) ∧ Ex A1 H' ∧ Dr A1 H' d ∧ NoTab A1 ∧ Tabs [(tb, lamQ)] H')
            ⟨v6, v7, v8, v9, v10, _, rfl, hpl, hhd, eA, dA, nA, hT⟩ ?_ ?_⟩
          · clear eA dA hT nA hpl hhd
            rintro k σ H hk ⟨v6, v7, v8, v9, v10, A1, rfl, hpl, hhd, eA, dA, nA, hT⟩
            rw [nums_len] at hk
            show gName 6 (V.int (0 + (k : Nat))) _ _ _
            rw [Int.zero_add]
            -- number, place, word = gap_state(row, at, 0, 268435455)
            obtain ⟨⟨n, pl, ok⟩, hrd⟩ : ∃ x, rdAt l k = x := ⟨_, rfl⟩
            refine ⟨_, rfl, _, rfl, p, l, k, _, rfl, eA, hpl, by omega, by omega, lb, fun n' pl' ok' t0 H1 e1 g1 ht0 ht1 => ?_⟩
            rw [hrd] at e1
            cases e1
            have hT := hT.ext fun b o h => g1.keep b o h fun z => z
            have dA := dA.go g1 fun z => z
            have eA := g1.inn
            clear g1
            refine ⟨t0, _, rfl, SqT.of ht1, rfl, _, _, rfl, _, _, rfl, _, _, rfl, rfl, ?_⟩
            -- due
            refine ⟨fun σ H' => ∃ (u : Addr) (G0 : Hp), σ = [some (.ref a), some (.ref d), some (.int (0 + (i : Int))), some (.ref p), v4, some (.ref hd), some (.int (k : Int)), some (.int (n : Int)), some (.int (pl : Int)), some (.str (if ok = true then "" else "bad")), some (.ref u)] ∧ Ex A1 G0 ∧ Dp K G0 (.ref u) (dueA (n, pl, ok)) ∧ Ex G0 H' ∧ Dr G0 H' d ∧ NoTab G0 ∧ Tabs [(tb, lamQ)] H', ?_, ?_⟩
            · have S := Sd.here eA dA
              cases ok with
              | true =>
                refine ⟨_, rfl, rfl, _, rfl, ifT rfl ?_⟩
                refine ⟨_, rfl, _, rfl, (by show 2 ≤ sizeLine; decide), fun t1 h1 => ?_⟩
                have S1 := S.put (.tup [.int (n : Int), .int (pl : Int)]) h1
                refine ⟨_, rfl, (by show 2 ≤ sizeLine; decide), fun t2 h2 => ?_⟩
                have S2 := S1.put (.tup [.ref t1, .int (-1)]) h2
                have e1 := up_put (o := .tup [.ref t1, .int (-1)]) (S1.ex.free h2) (upd_same (H := A1) (a := t1) (o := .tup [.int (n : Int), .int (pl : Int)]))
                refine ⟨t2, _, rfl, (Ex.new (eA.free h1)).trans (Ex.new (S1.ex.free h2)), ?_, S2.ex, S2.dr, (nA.upd (p := t1) (o := .tup [.int (n : Int), .int (pl : Int)]) (fun ps z => nomatch z)).upd (p := t2) (o := .tup [.ref t1, .int (-1)]) (fun ps z => nomatch z), tabs_new (tabs_new hT h1) h2⟩
                exact .tup (SqT.of upd_same) (.cons (.tup (SqT.of e1) (.cons (.int _) (.cons (.int _) .nil))) (.cons (.int _) .nil))
              | false =>
                refine ⟨_, rfl, rfl, _, rfl, ifF rfl ?_⟩
                refine ⟨_, rfl, (by show 2 ≤ sizeLine; decide), fun t2 h2 => ?_⟩
                have S2 := S.put (.tup [.non, .int (pl : Int)]) h2
                refine ⟨t2, _, rfl, Ex.new (eA.free h2), ?_, S2.ex, S2.dr, nA.upd (p := t2) (o := .tup [.non, .int (pl : Int)]) (fun ps z => nomatch z), tabs_new hT h2⟩
                exact .tup (SqT.of upd_same) (.cons .non (.cons (.int _) .nil))
            · clear hT eA dA ht1
              rintro σ H ⟨u, G0, rfl, xG, hdue, eG, dG, nG, hT⟩
              -- if not same(word(lambda: gap_read(handed, at)), due): return False
              refine ⟨fun v H' => ∃ t, v = .ref t ∧ Dp K H' (.ref t) (dueA (n, pl, ok)) ∧ Ex G0 H' ∧ Dr G0 H' d ∧ Tabs [(tb, lamQ)] H', ⟨hT, fun H1 eN hT1 => ?_⟩, ?_⟩
              · have eG := eG.extN nG eN
                have dG := dG.extN eN
                clear hT
                refine ⟨_, rfl, _, rfl, hd, l, k, G0, rfl, eG, xG _ _ hhd, by omega, by omega, lb, fun n' pl' p1 H2 e1 g2 hp1 hp2 t ht => ?_, fun pl' e1 cls dd H2 R => ?_⟩
                · rw [hrd] at e1
                  cases e1
                  have x2 := go_ex g2
                  have hp2 : upd H2 t (.tup [.ref p1, .int (-1)]) p1 = some (.tup [.int (n : Int), .int (pl : Int)]) := by
                    rw [upd_ne (ne_of_none hp2 ht)]
                    exact hp2
                  exact ⟨t, rfl, .tup (SqT.of upd_same) (.cons (.tup (SqT.of hp2) (.cons (.int _) (.cons (.int _) .nil))) (.cons (.int _) .nil)), g2.inn.lay _ ht, (dG.go g2 fun z => z).lay _ ht, tabs_new (hT1.ext x2) ht⟩
                · rw [hrd] at e1
                  cases e1
                  refine ⟨_, H1, R, fun t ht => ?_⟩
                  obtain ⟨C, dd', _, _, _, hdd, rfl, _⟩ := R.ex
                  exact ⟨t, rfl, .tup (SqT.of upd_same) (.cons .non (.cons (.int _) .nil)), (eG.lay _ hdd).lay _ ht, (dG.lay _ hdd).lay _ ht, tabs_new (tabs_new hT1 hdd) ht⟩
              clear hT eG dG
              rintro v H ⟨t, rfl, hdt, eG, dG, hT⟩
              refine ⟨_, rfl, .ref t, .ref u, dueA (n, pl, ok), G0, rfl, eG, hdt, dp_up eG _ _ hdue, (dueA_ok _).1, (dueA_ok _).2, fun H2 g2 => ?_⟩
              have x2 := go_ex g2
              have dG := dG.go g2 fun z => z
              have hT := hT.ext x2
              have eG := g2.inn
              clear g2 hdt x2
              refine ⟨true, rfl, ?_⟩
              refine ifF rfl ?_
              -- if at == 0 and not same(word(lambda: gap_read(handed)), due): return False
              refine ⟨_, rfl, rfl, _, rfl, ifD (fun c => ?_) (fun c => ?_)⟩
              · have k0 : k = 0 := by
                  have := V.int.inj c
                  omega
                subst k0
                refine ⟨fun v H' => ∃ t, v = .ref t ∧ Dp K H' (.ref t) (dueA (n, pl, ok)) ∧ Ex G0 H' ∧ Dr G0 H' d ∧ Tabs [(tb, lamQ)] H', ⟨hT, fun H1 eN hT1 => ?_⟩, ?_⟩
                · have eG := eG.extN nG eN
                  have dG := dG.extN eN
                  clear hT
                  refine ⟨_, rfl, hd, l, 0, G0, rfl, eG, xG _ _ hhd, by omega, by omega, lb, fun n' pl' p1 H2 e1 g2 hp1 hp2 t ht => ?_, fun pl' e1 cls dd H2 R => ?_⟩
                  · rw [hrd] at e1
                    cases e1
                    have x2 := go_ex g2
                    have hp2 : upd H2 t (.tup [.ref p1, .int (-1)]) p1 = some (.tup [.int (n : Int), .int (pl : Int)]) := by
                      rw [upd_ne (ne_of_none hp2 ht)]
                      exact hp2
                    exact ⟨t, rfl, .tup (SqT.of upd_same) (.cons (.tup (SqT.of hp2) (.cons (.int _) (.cons (.int _) .nil))) (.cons (.int _) .nil)), g2.inn.lay _ ht, (dG.go g2 fun z => z).lay _ ht, tabs_new (hT1.ext x2) ht⟩
                  · rw [hrd] at e1
                    cases e1
                    refine ⟨_, H1, R, fun t ht => ?_⟩
                    obtain ⟨C, dd', _, _, _, hdd, rfl, _⟩ := R.ex
                    exact ⟨t, rfl, .tup (SqT.of upd_same) (.cons .non (.cons (.int _) .nil)), (eG.lay _ hdd).lay _ ht, (dG.lay _ hdd).lay _ ht, tabs_new (tabs_new hT1 hdd) ht⟩
                clear hT eG dG
                rintro v H ⟨t, rfl, hdt, eG, dG, hT⟩
                refine ⟨_, rfl, .ref t, .ref u, dueA (n, pl, ok), G0, rfl, eG, hdt, dp_up eG _ _ hdue, (dueA_ok _).1, (dueA_ok _).2, fun H2 g2 => ?_⟩
                have x2 := go_ex g2
                have dG := dG.go g2 fun z => z
                have hT := hT.ext x2
                have eG := g2.inn
                clear g2 hdt x2
                refine ⟨true, rfl, ?_⟩
                refine ifF rfl ?_
                exact ⟨_, _, _, _, _, G0, rfl, xG _ _ hpl, xG _ _ hhd, eG, dG, nG, hT⟩
              · exact ⟨_, _, _, _, _, G0, rfl, xG _ _ hpl, xG _ _ hhd, eG, dG, nG, hT⟩
          · clear eA dA hT nA hpl hhd
            rintro σ H ⟨v6, v7, v8, v9, v10, A1, rfl, hpl, hhd, eA, dA, nA, hT⟩
            -- if handed != row: return False
            refine ⟨_, rfl, _, rfl, numsD l, numsD l, .lst (SqL.of (eA _ _ hhd)) (dp_nums l), .lst (SqL.of (eA _ _ hpl)) (dp_nums l), numsD_shaped l, numsD_shaped l, ?_⟩
            rw [numsD_eq l]
            refine ⟨_, rfl, ifF rfl ?_⟩
            exact ⟨_, _, _, _, _, _, _, _, _, _, rfl, eA, dA, nA, hT⟩
    · rintro σ H ⟨v2, v3, v4, v5, v6, v7, v8, v9, v10, A0, rfl, eA, dA, nA, hT⟩
      exact q H
end
end Rt

namespace Rt
open PySem PySem.Spec PyProof.Rows L2
section
variable {P : Program} {w : World} {K : PySem.W.Frag} {mg : Str → Option Value} {base : Heap}
end
theorem all_mk {l : PySem.W.OpenLaw} {w : World} {K : PySem.W.Frag} {h : Heap} {mg : Str → Option Value} {fa : Addr} (X : K.In h) (G : h.Ns mainGlobals mg) (hfa : mg "law" = some (.ref fa))
    {f1 : Addr} {od1 an1 : Option Addr} {sl1 : Array (Option Value)} {oc1 kV1 dc1 pm1 cd1 ct1 : Value}
    (a1 : PySem.W.nsIn K mainGlobals "_law_begin" = some (some (.ref f1)))
    (l1 : K.lookup f1 = some ⟨oc1, od1, .func (PySem.W.fnOf "_law_begin" "_law_begin" (defArgs s_begin) (defBody s_begin) (defScope s_begin) .none kV1 dc1 pm1 an1 cd1 ct1), sl1⟩)
    (c1 : PySem.W.codeIn K cd1 "_law_begin" = true) (k1 : PySem.W.keepIn K (.ref f1) = true)
    {f2 : Addr} {od2 an2 : Option Addr} {sl2 : Array (Option Value)} {oc2 kV2 dc2 pm2 cd2 ct2 : Value}
    (a2 : PySem.W.nsIn K mainGlobals "_law_pick" = some (some (.ref f2)))
    (l2 : K.lookup f2 = some ⟨oc2, od2, .func (PySem.W.fnOf "_law_pick" "_law_pick" (defArgs s_pick) (defBody s_pick) (defScope s_pick) .none kV2 dc2 pm2 an2 cd2 ct2), sl2⟩)
    (c2 : PySem.W.codeIn K cd2 "_law_pick" = true) (k2 : PySem.W.keepIn K (.ref f2) = true)
    {f3 : Addr} {od3 an3 : Option Addr} {sl3 : Array (Option Value)} {oc3 kV3 dc3 pm3 cd3 ct3 : Value}
    (a3 : PySem.W.nsIn K mainGlobals "_law_one" = some (some (.ref f3)))
    (l3 : K.lookup f3 = some ⟨oc3, od3, .func (PySem.W.fnOf "_law_one" "_law_one" (defArgs s_one) (defBody s_one) (defScope s_one) .none kV3 dc3 pm3 an3 cd3 ct3), sl3⟩)
    (c3 : PySem.W.codeIn K cd3 "_law_one" = true) (k3 : PySem.W.keepIn K (.ref f3) = true)
    {f4 : Addr} {od4 an4 : Option Addr} {sl4 : Array (Option Value)} {oc4 kV4 dc4 pm4 cd4 ct4 : Value}
    (a4 : PySem.W.nsIn K mainGlobals "_law_gap" = some (some (.ref f4)))
    (l4 : K.lookup f4 = some ⟨oc4, od4, .func (PySem.W.fnOf "_law_gap" "_law_gap" (defArgs s_law_gap) (defBody s_law_gap) (defScope s_law_gap) .none kV4 dc4 pm4 an4 cd4 ct4), sl4⟩)
    (c4 : PySem.W.codeIn K cd4 "_law_gap" = true) (k4 : PySem.W.keepIn K (.ref f4) = true)
    {f5 : Addr} {od5 an5 : Option Addr} {sl5 : Array (Option Value)} {oc5 kV5 dc5 pm5 cd5 ct5 : Value}
    (a5 : PySem.W.nsIn K mainGlobals "_law_same" = some (some (.ref f5)))
    (l5 : K.lookup f5 = some ⟨oc5, od5, .func (PySem.W.fnOf "_law_same" "_law_same" (defArgs s_same) (defBody s_same) (defScope s_same) .none kV5 dc5 pm5 an5 cd5 ct5), sl5⟩)
    (c5 : PySem.W.codeIn K cd5 "_law_same" = true) (k5 : PySem.W.keepIn K (.ref f5) = true)
    {f6 : Addr} {od6 an6 : Option Addr} {sl6 : Array (Option Value)} {oc6 kV6 dc6 pm6 cd6 ct6 : Value}
    {T6 : Addr} {oT6 : Value} {dT6 : Option Addr} {nT6 : Nat} {sT6 : Array (Option Value)} {tk6_0 : Tok}
    {cI6 : Addr} (b6 : PySem.W.nsIn K mainGlobals "TapeError" = some (some (.ref cI6))) (a6 : PySem.W.findIn K (.ref cI6) "__init__" = some (some (.ref f6)))
    (l6 : K.lookup f6 = some ⟨oc6, od6, .func (PySem.W.fnOf "__init__" "TapeError.__init__" (defArgs s_tape_init) (defBody s_tape_init) (defScope s_tape_init) (.ref T6) kV6 dc6 pm6 an6 cd6 ct6), sl6⟩)
    (c6 : PySem.W.codeIn K cd6 "TapeError.__init__" = true) (k6 : PySem.W.keepIn K (.ref f6) = true)
    (t6 : K.lookup T6 = some ⟨oT6, dT6, .seq #[.str "" tk6_0] nT6, sT6⟩)
    {f7 : Addr} {od7 an7 : Option Addr} {sl7 : Array (Option Value)} {oc7 kV7 dc7 pm7 cd7 ct7 : Value}
    {cI7 : Addr} (b7 : PySem.W.nsIn K mainGlobals "BadBytes" = some (some (.ref cI7))) (a7 : PySem.W.findIn K (.ref cI7) "__init__" = some (some (.ref f7)))
    (l7 : K.lookup f7 = some ⟨oc7, od7, .func (PySem.W.fnOf "__init__" "BadBytes.__init__" (defArgs s_bytes_init) (defBody s_bytes_init) (defScope s_bytes_init) .none kV7 dc7 pm7 an7 cd7 ct7), sl7⟩)
    (c7 : PySem.W.codeIn K cd7 "BadBytes.__init__" = true) (k7 : PySem.W.keepIn K (.ref f7) = true)
    {f8 : Addr} {od8 an8 : Option Addr} {sl8 : Array (Option Value)} {oc8 kV8 dc8 pm8 cd8 ct8 : Value}
    (a8 : PySem.W.nsIn K mainGlobals "_law_bytes_word" = some (some (.ref f8)))
    (l8 : K.lookup f8 = some ⟨oc8, od8, .func (PySem.W.fnOf "_law_bytes_word" "_law_bytes_word" (defArgs s_bytes_word) (defBody s_bytes_word) (defScope s_bytes_word) .none kV8 dc8 pm8 an8 cd8 ct8), sl8⟩)
    (c8 : PySem.W.codeIn K cd8 "_law_bytes_word" = true) (k8 : PySem.W.keepIn K (.ref f8) = true)
    {f9 : Addr} {od9 an9 : Option Addr} {sl9 : Array (Option Value)} {oc9 kV9 dc9 pm9 cd9 ct9 : Value}
    {T9 : Addr} {oT9 : Value} {dT9 : Option Addr} {nT9 : Nat} {sT9 : Array (Option Value)} {tk9_0 : Tok}
    (a9 : PySem.W.nsIn K mainGlobals "gap_read" = some (some (.ref f9)))
    (l9 : K.lookup f9 = some ⟨oc9, od9, .func (PySem.W.fnOf "gap_read" "gap_read" (defArgs s_gap_read_x) (defBody s_gap_read_x) (defScope s_gap_read_x) (.ref T9) kV9 dc9 pm9 an9 cd9 ct9), sl9⟩)
    (c9 : PySem.W.codeIn K cd9 "gap_read" = true) (k9 : PySem.W.keepIn K (.ref f9) = true)
    (t9 : K.lookup T9 = some ⟨oT9, dT9, .seq #[.int 0 tk9_0] nT9, sT9⟩)
    {f10 : Addr} {od10 an10 : Option Addr} {sl10 : Array (Option Value)} {oc10 kV10 dc10 pm10 cd10 ct10 : Value}
    (a10 : PySem.W.nsIn K mainGlobals "_law_bent_bytes" = some (some (.ref f10)))
    (l10 : K.lookup f10 = some ⟨oc10, od10, .func (PySem.W.fnOf "_law_bent_bytes" "_law_bent_bytes" (defArgs s_bent_bytes) (defBody s_bent_bytes) (defScope s_bent_bytes) .none kV10 dc10 pm10 an10 cd10 ct10), sl10⟩)
    (c10 : PySem.W.codeIn K cd10 "_law_bent_bytes" = true) (k10 : PySem.W.keepIn K (.ref f10) = true)
    {f11 : Addr} {od11 an11 : Option Addr} {sl11 : Array (Option Value)} {oc11 kV11 dc11 pm11 cd11 ct11 : Value}
    (a11 : PySem.W.nsIn K mainGlobals "_law_gap_state" = some (some (.ref f11)))
    (l11 : K.lookup f11 = some ⟨oc11, od11, .func (PySem.W.fnOf "_law_gap_state" "_law_gap_state" (defArgs s_gap_state) (defBody s_gap_state) (defScope s_gap_state) .none kV11 dc11 pm11 an11 cd11 ct11), sl11⟩)
    (c11 : PySem.W.codeIn K cd11 "_law_gap_state" = true) (k11 : PySem.W.keepIn K (.ref f11) = true)
    {f12 : Addr} {od12 an12 : Option Addr} {sl12 : Array (Option Value)} {oc12 kV12 dc12 pm12  ct12 : Value}
    {cc12 tb12 : Addr} {ox12 : Value} {dx12 : Option Addr} {vx12 : Array Value} {sx12 : Array (Option Value)}
    (a12 : PySem.W.nsIn K mainGlobals "law" = some (some (.ref f12)))
    (l12 : K.lookup f12 = some ⟨oc12, od12, .func (PySem.W.fnOf "law" "law" (defArgs s_law_k02) (defBody s_law_k02) (defScope s_law_k02) .none kV12 dc12 pm12 an12 (.ref cc12) ct12), sl12⟩)
    (c12 : PySem.W.codeIn K (.ref cc12) "law" = true) (k12 : PySem.W.keepIn K (.ref f12) = true)
    (lx12 : K.lookup cc12 = some ⟨ox12, dx12, .fields vx12, sx12⟩) (vt12 : vx12[11]? = some (.ref tb12)) (nt12 : K.lookup tb12 = none)
    (tl12 : PySem.W.CodeHd h cc12 tb12 ∧ h.get? tb12 = some { cls := .none, data := .fields #[] })
    (z_list : PySem.W.nsIn K mainGlobals "list" = some none)
    (z_len : PySem.W.nsIn K mainGlobals "len" = some none)
    (z_range : PySem.W.nsIn K mainGlobals "range" = some none)
    (z_isinstance : PySem.W.nsIn K mainGlobals "isinstance" = some none)
    (z_bool : PySem.W.nsIn K mainGlobals "bool" = some none)
    (z_int : PySem.W.nsIn K mainGlobals "int" = some none)
    (z_str : PySem.W.nsIn K mainGlobals "str" = some none)
    (z_tuple : PySem.W.nsIn K mainGlobals "tuple" = some none)
    (z_all : PySem.W.nsIn K mainGlobals "all" = some none)
    (z_ValueError : PySem.W.nsIn K mainGlobals "ValueError" = some none)
    {q1 : Tok}
    (g_MOST_SIZE : PySem.W.nsIn K mainGlobals "MOST_SIZE" = some (some (.int 4 q1)))
    {q3 : Tok}
    (g_BASE : PySem.W.nsIn K mainGlobals "BASE" = some (some (.int 128 q3)))
    {G_TapeError : Addr} (h_TapeError : PySem.W.nsIn K mainGlobals "TapeError" = some (some (.ref G_TapeError)))
    {CB : Addr} (eB : ErrG K "BadBytes" "BadBytes" "badbytes" CB f7) (na : PySem.W.findIn K (.ref CB) "at" = some none)
    (o2 : PySem.W.specialIn K (.ref G_TapeError) "__getattribute__" = some (some (.builtin "type.__getattribute__"))) (o3 : PySem.W.readsIn K G_TapeError (.type "type") = true) (o4 : PySem.W.findCls K (.ref G_TapeError) (.type "type") "__init__" = some (.val (.ref f6)))
    (vV : PySem.W.findCls K (.type "ValueError") (.type "type") "__init__" = some (.val (.builtin "ValueError.__init__")))
    : LamX.LawAtS l w K CX0 7 63 "_law_script" mg fa h := by
  have e := hfa.symm.trans (PySem.W.mg_of X G a12)
  cases e
  have m_list := PySem.W.mg_none_of X G z_list
  have m_len := PySem.W.mg_none_of X G z_len
  have m_range := PySem.W.mg_none_of X G z_range
  have m_isinstance := PySem.W.mg_none_of X G z_isinstance
  have m_bool := PySem.W.mg_none_of X G z_bool
  have m_int := PySem.W.mg_none_of X G z_int
  have m_str := PySem.W.mg_none_of X G z_str
  have m_tuple := PySem.W.mg_none_of X G z_tuple
  have m_all := PySem.W.mg_none_of X G z_all
  have m_ValueError := PySem.W.mg_none_of X G z_ValueError
  have g_TapeError := PySem.W.mg_of X G h_TapeError
  have c_MOST_SIZE : ∃ u, mg "MOST_SIZE" = some u ∧ L2.RelV (.int 4) u := ⟨_, PySem.W.mg_of X G g_MOST_SIZE, ⟨_, rfl⟩⟩
  have c_BASE : ∃ u, mg "BASE" = some u ∧ L2.RelV (.int 128) u := ⟨_, PySem.W.mg_of X G g_BASE, ⟨_, rfl⟩⟩
  have F1 := fun_mk (st := s_begin) l1 c1 k1
  have g1 := PySem.W.mg_of X G a1
  have b1 := F1.binds (ps := ["_law_script"]) fun _ _ _ _ _ _ us hl => match us, hl with | [_], _ => rfl
  have F2 := fun_mk (st := s_pick) l2 c2 k2
  have g2 := PySem.W.mg_of X G a2
  have b2 := F2.binds (ps := ["_law_draw", "_law_many"]) fun _ _ _ _ _ _ us hl => match us, hl with | [_, _], _ => rfl
  have F3 := fun_mk (st := s_one) l3 c3 k3
  have g3 := PySem.W.mg_of X G a3
  have b3 := F3.binds (ps := ["_law_draw", "_law_some"]) fun _ _ _ _ _ _ us hl => match us, hl with | [_, _], _ => rfl
  have F4 := fun_mk (st := s_law_gap) l4 c4 k4
  have g4 := PySem.W.mg_of X G a4
  have b4 := F4.binds (ps := ["_law_number"]) fun _ _ _ _ _ _ us hl => match us, hl with | [_], _ => rfl
  have F5 := fun_mk (st := s_same) l5 c5 k5
  have g5 := PySem.W.mg_of X G a5
  have b5 := F5.binds (ps := ["_law_found", "_law_due"]) fun _ _ _ _ _ _ us hl => match us, hl with | [_, _], _ => rfl
  have F6 : FunD K "__init__" "TapeError.__init__" (defArgs s_tape_init) (defBody s_tape_init) (defScope s_tape_init) [.str ""] [] f6 _ := ⟨⟨_, _, _, _, _, _, _, _, _, _, rfl, l6, c6, .inr ⟨by simp, _, _, _, _, rfl, t6, rfl, (.cons ⟨_, rfl⟩ .nil)⟩, .inl rfl⟩, k6⟩
  obtain ⟨ds6, vd6, b6⟩ := F6.binds1 (ps := ["self", "why"]) 2 1 (by simp) rfl fun _ _ _ _ _ _ _ us its h1 h2 => match us, its, h1, h2 with | [_, _], [_], _, _ => ⟨_, rfl, rfl⟩
  cases vd6
  have F7 := fun_mk (st := s_bytes_init) l7 c7 k7
  have b7 := F7.binds (ps := ["self", "at"]) fun _ _ _ _ _ _ us hl => match us, hl with | [_, _], _ => rfl
  have F8 := fun_mk (st := s_bytes_word) l8 c8 k8
  have g8 := PySem.W.mg_of X G a8
  have b8 := F8.binds (ps := ["_law_ask"]) fun _ _ _ _ _ _ us hl => match us, hl with | [_], _ => rfl
  have F9 : FunD K "gap_read" "gap_read" (defArgs s_gap_read_x) (defBody s_gap_read_x) (defScope s_gap_read_x) [.int 0] [] f9 _ := ⟨⟨_, _, _, _, _, _, _, _, _, _, rfl, l9, c9, .inr ⟨by simp, _, _, _, _, rfl, t9, rfl, (.cons ⟨_, rfl⟩ .nil)⟩, .inl rfl⟩, k9⟩
  have g9 := PySem.W.mg_of X G a9
  obtain ⟨ds9, vd9, b9⟩ := F9.binds1 (ps := ["row", "at"]) 2 1 (by simp) rfl fun _ _ _ _ _ _ _ us its h1 h2 => match us, its, h1, h2 with | [_, _], [_], _, _ => ⟨_, rfl, rfl⟩
  cases vd9
  have F10 := fun_mk (st := s_bent_bytes) l10 c10 k10
  have g10 := PySem.W.mg_of X G a10
  have b10 := F10.binds (ps := ["_law_draw", "_law_row"]) fun _ _ _ _ _ _ us hl => match us, hl with | [_, _], _ => rfl
  have F11 := fun_mk (st := s_gap_state) l11 c11 k11
  have g11 := PySem.W.mg_of X G a11
  have b11 := F11.binds (ps := ["_law_row", "_law_at", "_law_least", "_law_most"]) fun _ _ _ _ _ _ us hl => match us, hl with | [_, _, _, _], _ => rfl
  have F12 := fun_mk (st := s_law_k02) l12 c12 k12
  have g12 := PySem.W.mg_of X G a12
  refine ⟨PySem.W.fnOf "law" "law" (defArgs s_law_k02) (defBody s_law_k02) (defScope s_law_k02) .none kV12 dc12 pm12 an12 (.ref cc12) ct12, [(cc12, tb12)], spLaw K [(tb12, lamQ)], List.forall_mem_cons.mpr ⟨tl12.2, fun _ h => nomatch h⟩, List.forall_mem_cons.mpr ⟨nt12, fun _ h => nomatch h⟩, List.forall_mem_cons.mpr ⟨tl12.1, fun _ h => nomatch h⟩, fun s v => .of_eq rfl, fun H a ns hl hbits hT hS => ?hsp, fun base Kb Gb TB => ?_⟩
  case hsp =>
    exact ⟨a, ns, rfl, hS, fun p hp => by have e := List.mem_singleton.mp hp; subst e; exact LamX.TabS.nil (hT (cc12, tb12) (by simp)), fun _ => rfl⟩
  have TB12 : LamX.TabB base mg cc12 tb12 := TB (cc12, tb12) (by simp)
  have D__law_begin : Def l.prog w K mg base "_law_begin" 1 (spBegin K) := ⟨_, _, _, _, g1, ok_begin (P := l.prog) (w := w) (base := base) F1 m_list, k1, b1, .nil⟩
  have D__law_pick : Def l.prog w K mg base "_law_pick" 1 spPick := ⟨_, _, _, _, g2, ok_pick (P := l.prog) (w := w) (base := base) F2 m_len, k2, b2, .nil⟩
  have D__law_one : Def l.prog w K mg base "_law_one" 2 spOne := ⟨_, _, _, _, g3, ok_one (P := l.prog) (w := w) (base := base) F3 D__law_pick m_len, k3, b3, .nil⟩
  have D__law_gap : Def l.prog w K mg base "_law_gap" 1 spGapBytes := ⟨_, _, _, _, g4, ok_law_gap (P := l.prog) (w := w) (base := base) F4 m_range, k4, b4, .nil⟩
  have D__law_same : Def l.prog w K mg base "_law_same" 3 (spSame K 2) := ⟨_, _, _, _, g5, ok_same (P := l.prog) (w := w) (base := base) F5 b5 g5 m_isinstance m_bool m_int m_str m_list m_tuple m_len m_all m_range 2, k5, b5, .nil⟩
  have I_tape_init := ok_tape_init (P := l.prog) (w := w) (base := base) F6 m_ValueError vV
  have I_bytes_init := ok_bytes_init (P := l.prog) (w := w) (base := base) F7 ⟨_, g_TapeError, o2, o3, o4⟩ I_tape_init k6 b6
  have T_BadBytes := errA_mk (P := l.prog) (w := w) (base := base) eB na X G I_bytes_init b7
  have D_gap_read : DefX l.prog w K mg base "gap_read" 4 (spGapReadX K mg) := ⟨_, _, _, g9, ok_gap_read_x (P := l.prog) (w := w) (base := base) F9 T_BadBytes m_len c_MOST_SIZE c_BASE, k9, b9⟩
  have D_gap_read1 : DefXd l.prog w K mg base "gap_read" 4 (spGapReadX K mg) [.int 0] := by
      obtain ⟨ds, vd, bd⟩ := F9.binds1 (ps := ["row", "at"]) 1 0 (by simp) rfl fun _ _ _ _ _ _ _ us its h1 h2 => match us, its, h1, h2 with | [_], [_], _, _ => ⟨_, rfl, rfl⟩
      exact ⟨_, _, _, ds, g9, ok_gap_read_x (P := l.prog) (w := w) (base := base) F9 T_BadBytes m_len c_MOST_SIZE c_BASE, k9, bd, vd⟩
  have D__law_bent_bytes : Def l.prog w K mg base "_law_bent_bytes" 3 spBent := ⟨_, _, _, _, g10, ok_bent (P := l.prog) (w := w) (base := base) F10 D__law_pick D__law_one m_len m_list m_range, k10, b10, .nil⟩
  have D__law_gap_state : Def l.prog w K mg base "_law_gap_state" 1 spGapState := ⟨_, _, _, _, g11, ok_gap_state (P := l.prog) (w := w) (base := base) F11 m_len m_range, k11, b11, .nil⟩
  exact ok_law (P := l.prog) (w := w) (base := base) F12 rfl TB12 D__law_begin D__law_pick D__law_gap D__law_bent_bytes D__law_gap_state D_gap_read D_gap_read1 D__law_same F8 g8 b8 (PySem.W.mg_of X G eB.g) eB.self m_range m_len m_list
end Rt
open PySem PySem.W PyProof.Rows
set_option maxRecDepth 100000 in
set_option maxHeartbeats 0 in
theorem PySem.Challenge.cw_reedtapes_k02_gaps_read_or_refused_holds : PySem.Challenge.rw_reedtapes_k02_gaps_read_or_refused.Holds := by
  w_on; o_law; k_head; (case hw => w_witness2)
  k_fill
  refine Rt.walkT (l := PySem.Challenge.rw_reedtapes_k02_gaps_read_or_refused) (n := 63) (k := 7) (x := "_law_script") (CX := fun _ => L2.CX0) rfl (by decide) rfl ⟨rfl, by decide, by decide⟩ (fun w h Y => PySem.W.km_in_of Y) ?F (fun _ _ _ _ _ h => h)
  case F =>
    intro w mg fa h KX G hmg tabs
    refine' Rt.all_mk KX G hmg ?a1 ?l1 ?c1 ?k1 ?a2 ?l2 ?c2 ?k2 ?a3 ?l3 ?c3 ?k3 ?a4 ?l4 ?c4 ?k4 ?a5 ?l5 ?c5 ?k5 ?b6 ?a6 ?l6 ?c6 ?k6 ?t6 ?b7 ?a7 ?l7 ?c7 ?k7 ?a8 ?l8 ?c8 ?k8 ?a9 ?l9 ?c9 ?k9 ?t9 ?a10 ?l10 ?c10 ?k10 ?a11 ?l11 ?c11 ?k11 ?a12 ?l12 ?c12 ?k12 ?lx12 ?vt12 ?nt12 ?tl12 ?z_list ?z_len ?z_range ?z_isinstance ?z_bool ?z_int ?z_str ?z_tuple ?z_all ?z_ValueError ?g_MOST_SIZE ?g_BASE ?h_TapeError ?eB ?na ?o2 ?o3 ?o4 ?vV
    (case a1 => k_is)
    (case l1 => k_is)
    (case c1 => k_is)
    (case k1 => k_is)
    (case a2 => k_is)
    (case l2 => k_is)
    (case c2 => k_is)
    (case k2 => k_is)
    (case a3 => k_is)
    (case l3 => k_is)
    (case c3 => k_is)
    (case k3 => k_is)
    (case a4 => k_is)
    (case l4 => k_is)
    (case c4 => k_is)
    (case k4 => k_is)
    (case a5 => k_is)
    (case l5 => k_is)
    (case c5 => k_is)
    (case k5 => k_is)
    (case b6 => k_is)
    (case a6 => k_is)
    (case l6 => k_is)
    (case c6 => k_is)
    (case k6 => k_is)
    (case t6 => k_is)
    (case b7 => k_is)
    (case a7 => k_is)
    (case l7 => k_is)
    (case c7 => k_is)
    (case k7 => k_is)
    (case a8 => k_is)
    (case l8 => k_is)
    (case c8 => k_is)
    (case k8 => k_is)
    (case a9 => k_is)
    (case l9 => k_is)
    (case c9 => k_is)
    (case k9 => k_is)
    (case t9 => k_is)
    (case a10 => k_is)
    (case l10 => k_is)
    (case c10 => k_is)
    (case k10 => k_is)
    (case a11 => k_is)
    (case l11 => k_is)
    (case c11 => k_is)
    (case k11 => k_is)
    (case a12 => k_is)
    (case l12 => k_is)
    (case c12 => k_is)
    (case k12 => k_is)
    (case lx12 => k_is)
    (case vt12 => rfl)
    (case nt12 => kernel_rfl)
    (case tl12 => refine tabs "law" _ _ _ rfl (by kernel_rfl))
    (case z_list => k_is)
    (case z_len => k_is)
    (case z_range => k_is)
    (case z_isinstance => k_is)
    (case z_bool => k_is)
    (case z_int => k_is)
    (case z_str => k_is)
    (case z_tuple => k_is)
    (case z_all => k_is)
    (case z_ValueError => k_is)
    (case g_MOST_SIZE => k_is)
    (case g_BASE => k_is)
    (case h_TapeError => k_is)
    (case eB =>
      refine' Rt.errG_of ?eB_g ?eB_cls1 ?eB_cls2 ?eB_nm1 ?eB_nm2 ?eB_sa ?eB_exC ?eB_tyC ?eB_kC ?eB_ga ?eB_gg ?eB_hd ?eB_ca ?eB_cg ?eB_ct ?eB_mo ?eB_rd ?eB_fc ?eB_nc ?eB_iC ?eB_tI ?eB_se ?eB_low ?eB_sz
      (case eB_g => k_is)
      (case eB_cls1 => k_is)
      (case eB_cls2 => decide +kernel)
      (case eB_nm1 => k_is)
      (case eB_nm2 => rfl)
      (case eB_sa => k_is)
      (case eB_exC => k_is)
      (case eB_tyC => k_is)
      (case eB_kC => k_is)
      (case eB_ga => k_is)
      (case eB_gg => k_is)
      (case eB_hd => k_is)
      (case eB_ca => k_is)
      (case eB_cg => k_is)
      (case eB_ct => k_is)
      (case eB_mo => k_is)
      (case eB_rd => k_is)
      (case eB_fc => k_is)
      (case eB_nc => k_is)
      (case eB_iC => k_is)
      (case eB_tI => k_is)
      (case eB_se => k_is)
      (case eB_low => decide +kernel)
      (case eB_sz => decide +kernel))
    (case na => k_is)
    (case o2 => k_is)
    (case o3 => k_is)
    (case o4 => k_is)
    (case vV => k_is)

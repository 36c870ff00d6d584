import PyProof.Rows.All
import Wide.All
import OpenK.AllK
import Wide.FinOn
import HandS.ForMost
import HandS.ForExc
import HandS.IsInst
import HandS.FStr
import HandS.TryMany
import HandS.ExcInit
import HandS.ExcField
import HandS.ExcIs
import HandS.Codes
import HandS.Defaults
import HandS.SortInts
import KE.KTypeName
import HandS.CallSlots
import HandS.Lambda
import HandS.EndTab
import KE.KNestM
import HandS.EndOwn
import KE.KEqSeq
import HandS.Zip
import HandS.WrittenGet
import HandS.TupAny
import HandS.FStrTup
import HandS.More
import HandS.SortKw
import KE.DataMinMax
import KE.KUnpackStar
import HandS.RevRange
import PySem.Challenge.RW_reedtapes_k12_whole_prices_tell_the_way
set_option Elab.async false
set_option linter.all false
set_option maxRecDepth 100000
set_option maxHeartbeats 4000000
namespace Rt
open PySem PySem.Spec PyProof.Rows L2
/-! ### heaps: what was known stays known -/
def Ex (H H' : Hp) : Prop := ∀ b o, H b = some o → H' b = some o
theorem Ex.refl (H : Hp) : Ex H H := fun _ _ h => h
theorem Ex.trans {H H1 H2 : Hp} (a : Ex H H1) (b : Ex H1 H2) : Ex H H2 := fun c o h => b c o (a c o h)
theorem Ex.to {H H' : Hp} {b : Addr} {o : HO} (e : Ex H H') (h : H b = some o) : H' b = some o := e b o h
theorem Ex.seq {K : PySem.W.Frag} {H H' : Hp} {a : Addr} {xs : List V} (e : Ex H H') (h : SqL K H a xs) : SqL K H' a xs := by
  rcases h with (h | ⟨o, h⟩) | h
  · exact .inl (.inl (e _ _ h))
  · exact .inl (.inr ⟨o, e _ _ h⟩)
  · exact .inr h
theorem Ex.new {H : Hp} {p : Addr} {o : HO} (h : H p = none) : Ex H (upd H p o) := fun a u e => by
  rw [upd_ne (ne_of_none e h)]
  exact e
theorem Ex.free {H H' : Hp} {p : Addr} (e : Ex H H') (h : H' p = none) : H p = none := by
  cases q : H p with
  | none => rfl
  | some o =>
    rw [e p o q] at h
    cases h
/-- a step of the heap: H0 what is settled, H all; m: what may be turned -/
structure Go (m : Addr → Prop) (E0 E H0 H : Hp) : Prop where
  up : Ex E0 H0
  inn : Ex H0 H
  new : ∀ b, E b ≠ none → E0 b = none → H0 b = none
  keep : ∀ b o, E b = some o → ¬ m b → H b = some o
  there : ∀ b, E b ≠ none → H b ≠ none
theorem Go.refl {m : Addr → Prop} {H0 H : Hp} (e : Ex H0 H) : Go m H0 H H0 H := ⟨Ex.refl _, e, fun _ _ h => h, fun _ _ h _ => h, fun _ h => h⟩
theorem Go.trans {m m' : Addr → Prop} {E0 E F0 F G0 G : Hp} (a : Go m E0 E F0 F) (b : Go m' F0 F G0 G) (hm : ∀ x, E x ≠ none → m' x → m x) : Go m E0 E G0 G where
  up := a.up.trans b.up
  inn := b.inn
  new := fun x h1 h2 => b.new x (a.there x h1) (a.new x h1 h2)
  keep := fun x o h n => b.keep x o (a.keep x o h n) fun z => n (hm x (by rw [h]; simp) z)
  there := fun x h => b.there x (a.there x h)
/-- the same, what may be turned being alike -/
theorem Go.then {m : Addr → Prop} {E0 E F0 F G0 G : Hp} (a : Go m E0 E F0 F) (b : Go m F0 F G0 G) : Go m E0 E G0 G := a.trans b fun _ _ h => h
/-- a new object, not settled -/
theorem Go.lay {m : Addr → Prop} {E0 E H0 H : Hp} {p : Addr} (o : HO) (a : Go m E0 E H0 H) (h : H p = none) : Go m E0 E H0 (upd H p o) where
  up := a.up
  inn := a.inn.trans (Ex.new h)
  new := a.new
  keep := fun x u q n => by
    rw [upd_ne (ne_of_none (a.keep x u q n) h)]
    exact a.keep x u q n
  there := fun x q => by
    by_cases e : x = p
    · rw [e, upd_same]; simp
    · rw [upd_ne e]; exact a.there x q
/-- a new object that is not known at the entry is turned -/
theorem Go.turn {m : Addr → Prop} {E0 E H0 H : Hp} {p : Addr} (o : HO) (a : Go m E0 E H0 H) (h : E p = none) (h0 : H0 p = none) : Go m E0 E H0 (upd H p o) where
  up := a.up
  inn := fun x u q => by
    rw [upd_ne (ne_of_none q h0)]
    exact a.inn x u q
  new := a.new
  keep := fun x u q n => by
    rw [upd_ne (ne_of_none q h)]
    exact a.keep x u q n
  there := fun x q => by
    by_cases e : x = p
    · rw [e, upd_same]; simp
    · rw [upd_ne e]; exact a.there x q
/-- what may be turned is turned -/
theorem Go.turnM {m : Addr → Prop} {E0 E H0 H : Hp} {p : Addr} (o : HO) (a : Go m E0 E H0 H) (h : m p) (h0 : H0 p = none) : Go m E0 E H0 (upd H p o) where
  up := a.up
  inn := fun x u q => by
    rw [upd_ne (ne_of_none q h0)]
    exact a.inn x u q
  new := a.new
  keep := fun x u q n => by
    have e : x ≠ p := fun z => n (z ▸ h)
    rw [upd_ne e]
    exact a.keep x u q n
  there := fun x q => by
    by_cases e : x = p
    · rw [e, upd_same]; simp
    · rw [upd_ne e]; exact a.there x q
/-- it is settled -/
theorem Go.set {m : Addr → Prop} {E0 E H0 H : Hp} {p : Addr} {o : HO} (a : Go m E0 E H0 H) (h : E p = none) (hp : H p = some o) (h0 : H0 p = none) : Go m E0 E (upd H0 p o) H where
  up := a.up.trans (Ex.new h0)
  inn := fun x u q => by
    by_cases e : x = p
    · rw [e, upd_same] at q
      rw [e, hp, q]
    · rw [upd_ne e] at q
      exact a.inn x u q
  new := fun x q r => by
    have e : x ≠ p := fun z => q (z ▸ h)
    rw [upd_ne e]
    exact a.new x q r
  keep := a.keep
  there := a.there
/-- a new object that is settled at once -/
theorem Go.put {m : Addr → Prop} {E0 E H0 H : Hp} {p : Addr} (o : HO) (a : Go m E0 E H0 H) (h : H p = none) : Go m E0 E (upd H0 p o) (upd H p o) := by
  have hE : E p = none := by
    cases q : E p with
    | none => rfl
    | some u => exact absurd h (a.there p (by rw [q]; simp))
  exact (a.lay o h).set hE upd_same (a.inn.free h)
theorem Go.mono {m m' : Addr → Prop} {E0 E H0 H : Hp} (a : Go m E0 E H0 H) (h : ∀ x, m x → m' x) : Go m' E0 E H0 H := ⟨a.up, a.inn, a.new, fun b o q n => a.keep b o q fun z => n (h b z), a.there⟩
/-- fresh now: fresh at the entry, and unsettled -/
theorem Go.fresh {m : Addr → Prop} {E0 E H0 H : Hp} {p : Addr} (a : Go m E0 E H0 H) (h : H p = none) : E p = none := by
  cases q : E p with
  | none => rfl
  | some u => exact absurd h (a.there p (by rw [q]; simp))
theorem Go.fresh0 {m : Addr → Prop} {E0 E H0 H : Hp} {p : Addr} (a : Go m E0 E H0 H) (h : H p = none) : H0 p = none := a.inn.free h
/-! ### the drawing's list -/
structure Dr (H0 H : Hp) (d : Addr) : Prop where
  ex : ∃ (a : Addr) (ns : List Int) (i j k l : Int), H d = some (.lst [.ref a, .int i, .int j, .int k, .int l]) ∧ H0 a = some (.lst (ns.map V.int)) ∧ 0 ≤ i ∧ 0 ≤ j ∧ 0 ≤ k ∧ k < 2000000000
  out : H0 d = none
theorem Dr.mono {H0 H H0' : Hp} {d : Addr} (x : Dr H0 H d) (e : Ex H0 H0') (n : H0' d = none) : Dr H0' H d := by
  obtain ⟨⟨a, ns, i, j, k, l, h1, h2, h3⟩, _⟩ := x
  exact ⟨⟨a, ns, i, j, k, l, h1, e _ _ h2, h3⟩, n⟩
theorem Dr.known {H0 H : Hp} {d : Addr} (x : Dr H0 H d) : H d ≠ none := by
  obtain ⟨⟨a, ns, i, j, k, l, h1, _⟩, _⟩ := x
  rw [h1]; simp
/-- a pure step leaves the drawing -/
theorem Dr.go {m : Addr → Prop} {H0 H H0' H' : Hp} {d : Addr} (x : Dr H0 H d) (g : Go m H0 H H0' H') (n : ¬ m d) : Dr H0' H' d := by
  have k := x.known
  obtain ⟨⟨a, ns, i, j, k', l, h1, h2, h3⟩, o⟩ := x
  exact ⟨⟨a, ns, i, j, k', l, g.keep _ _ h1 n, g.up _ _ h2, h3⟩, g.new d k o⟩
theorem Dr.lay {H0 H : Hp} {d p : Addr} (o : HO) (x : Dr H0 H d) (h : H p = none) : Dr H0 (upd H p o) d := by
  have k := x.known
  obtain ⟨⟨a, ns, i, j, k', l, h1, h2⟩, n⟩ := x
  exact ⟨⟨a, ns, i, j, k', l, by rw [upd_ne (ne_of_none h1 h)]; exact h1, h2⟩, n⟩
theorem Dr.turn {H0 H : Hp} {d p : Addr} (o : HO) (x : Dr H0 H d) (h : d ≠ p) : Dr H0 (upd H p o) d := by
  obtain ⟨⟨a, ns, i, j, k', l, h1, h2⟩, n⟩ := x
  exact ⟨⟨a, ns, i, j, k', l, by rw [upd_ne h]; exact h1, h2⟩, n⟩
theorem Dr.set {H0 H : Hp} {d p : Addr} (o : HO) (x : Dr H0 H d) (h0 : H0 p = none) (h : d ≠ p) : Dr (upd H0 p o) H d := x.mono (Ex.new h0) (by rw [upd_ne h]; exact x.out)
theorem Dr.ne {H0 H : Hp} {d p : Addr} (x : Dr H0 H d) (h : H p = none) : d ≠ p := fun z => x.known (z ▸ h)
theorem Ex.lay {H0 H : Hp} {p : Addr} (o : HO) (e : Ex H0 H) (h : H p = none) : Ex H0 (upd H p o) := e.trans (Ex.new h)
theorem Ex.turn {H0 H : Hp} {p : Addr} (o : HO) (e : Ex H0 H) (h : H0 p = none) : Ex H0 (upd H p o) := fun x u q => by
  rw [upd_ne (ne_of_none q h)]
  exact e x u q
theorem Ex.set {H0 H : Hp} {p : Addr} {o : HO} (e : Ex H0 H) (h : H p = some o) : Ex (upd H0 p o) H := fun x u q => by
  by_cases z : x = p
  · rw [z, upd_same] at q
    rw [z, h, q]
  · rw [upd_ne z] at q
    exact e x u q
/-- where a drawing def stands: A0, A at its entry, H0, H now -/
structure Sd (d : Addr) (A0 A H0 H : Hp) : Prop where
  go : Go (· = d) A0 A H0 H
  dr : Dr H0 H d
theorem Sd.ex {d : Addr} {A0 A H0 H : Hp} (S : Sd d A0 A H0 H) : Ex H0 H := S.go.inn
theorem Sd.here {d : Addr} {H0 H : Hp} (e : Ex H0 H) (x : Dr H0 H d) : Sd d H0 H H0 H := ⟨Go.refl e, x⟩
theorem Sd.call {d : Addr} {A0 A H0 H H0' H' : Hp} (S : Sd d A0 A H0 H) (g : Go (· = d) H0 H H0' H') (x : Dr H0' H' d) : Sd d A0 A H0' H' := ⟨S.go.then g, x⟩
theorem Sd.pure {d : Addr} {A0 A H0 H H0' H' : Hp} (S : Sd d A0 A H0 H) (g : Go (fun _ => False) H0 H H0' H') : Sd d A0 A H0' H' := ⟨S.go.trans g fun _ _ z => z.elim, S.dr.go g fun z => z⟩
theorem Sd.put {d p : Addr} {A0 A H0 H : Hp} (o : HO) (S : Sd d A0 A H0 H) (h : H p = none) : Sd d A0 A (upd H0 p o) (upd H p o) := ⟨S.go.put o h, (S.dr.lay o h).set o (S.ex.free h) (S.dr.ne h)⟩
theorem Sd.lay {d p : Addr} {A0 A H0 H : Hp} (o : HO) (S : Sd d A0 A H0 H) (h : H p = none) : Sd d A0 A H0 (upd H p o) := ⟨S.go.lay o h, S.dr.lay o h⟩
theorem Sd.turn {d p : Addr} {A0 A H0 H : Hp} (o : HO) (S : Sd d A0 A H0 H) (h : A p = none) (h0 : H0 p = none) (n : d ≠ p) : Sd d A0 A H0 (upd H p o) := ⟨S.go.turn o h h0, S.dr.turn o n⟩
theorem Sd.set {d p : Addr} {A0 A H0 H : Hp} {o : HO} (S : Sd d A0 A H0 H) (h : A p = none) (hp : H p = some o) (h0 : H0 p = none) (n : d ≠ p) : Sd d A0 A (upd H0 p o) H := ⟨S.go.set h hp h0, S.dr.set o h0 n⟩
/-! ### a def of the text, called by its name; dvs: the defaults that fill up -/
structure Def (P : Program) (w : World) (K : PySem.W.Frag) (mg : Str → Option Value) (base : Heap) (x : Str) (k : Nat) (sp : Sp) (dvs : List V := []) : Prop where
  ex : ∃ (f : Addr) (fd : FuncData) (ps : List Str) (ds : List Value), mg x = some (.ref f) ∧ FnOk P w K mg base CX0 k f fd ps sp ∧ PySem.W.keepIn K (.ref f) = true ∧ Binds K fd ps ds ∧ Vals dvs ds
section
variable {X : Cx} {x : Str} {p pos : Pos} {e : Expr} {es : List Expr} {t : TA} {k : Nat} {sp : Sp} {dvs : List V}
theorem pe_d (D : Def X.prog X.w X.K X.mg X.base x k sp dvs) (hr : Room k X.A) (hg : Gl X x) (ha : PA X (e :: es) t) (hdb : (x == ("__debug__" : Str)) = false := by decide)
    (he : starEach (e :: es) X.env = (false, eval e X.env) :: starEach es X.env := by rfl) (hpl : (backTo pos (starEach es X.env)).any (·.1) = false := by rfl) :
    PE X (.Call (.Name x p) (e :: es) [] pos) (tCall sp dvs E0 t) := by
  obtain ⟨f, fd, ps, ds, h1, h2, h3, h4, h5⟩ := D.ex
  exact pe_call h2 hr hg h1 h3 h4 h5 pass0 ha hdb he hpl
theorem pe_d0 (D : Def X.prog X.w X.K X.mg X.base x k sp dvs) (hr : Room k X.A) (hg : Gl X x) (hdb : (x == ("__debug__" : Str)) = false := by decide) :
    PE X (.Call (.Name x p) [] [] pos) (tCall sp dvs E0 tNil) := by
  obtain ⟨f, fd, ps, ds, h1, h2, h3, h4, h5⟩ := D.ex
  exact pe_call0 h2 hr hg h1 h3 h4 h5 pass0 hdb
end
section
variable {P : Program} {w : World} {K : PySem.W.Frag} {mg : Str → Option Value} {base : Heap} {x qual : Str} {params : Arguments} {body : List Stmt} {scope : Scope} {dvs : List V} {kws : List (Str × V)} {f : Addr} {fd : FuncData}
/-- a def with defaults that lets nothing out -/
theorem okD0 {N ps : List Str} {k : Nat} {sp : Sp} (F : FunD K x qual params body scope dvs kws f fd) (S : FnScope N ps scope) (len : ∀ vs H Q E, sp vs H Q E → vs.length = ps.length)
    (hbody : ∀ (cdv : Value) (A : Around) (outer : List Env) (s : Shared) (H : Hp) (vs : List V) (Q : VK) (E : XK), Room k (A.deeper (envOfC qual scope s.heap.objs.size f cdv)) → sp vs H Q E →
      ∃ t, PSs (cxOf CX0 P w K mg base N qual scope f cdv A outer s H E).nox body t ∧ t { nx := fun _ H' => Q .non H', rt := Q } (start N vs) H) : FnOk P w K mg base CX0 (k + 1) f fd ps sp :=
  F.ok S len fun cdv A outer s H vs Q E hr hsp =>
    let ⟨t, h, q⟩ := hbody cdv A outer s H vs Q E hr hsp
    ⟨t, h.nox, q⟩
end
/-! ### numbers as rows of bytes -/
def gtl (r : Nat) : List Nat := if h : r = 0 then [] else (128 + r % 128) :: gtl (r / 128)
termination_by r
decreasing_by omega
theorem gtl0 : gtl 0 = [] := by rw [gtl]; rfl
theorem gtl1 {r : Nat} (h : r ≠ 0) : gtl r = (128 + r % 128) :: gtl (r / 128) := by
  rw [gtl, dif_neg h]
def gapB (n : Nat) : List Nat := ((n % 128) :: gtl (n / 128)).reverse
def val (l : List Nat) : Nat := l.foldl (fun t b => t * 128 + b % 128) 0
theorem val_snoc (l : List Nat) (b : Nat) : val (l ++ [b]) = val l * 128 + b % 128 := by
  unfold val
  rw [List.foldl_append]
  rfl
theorem val_gtl (r : Nat) : val (gtl r).reverse = r := by
  induction r using Nat.strongRecOn with
  | _ r ih =>
    by_cases h : r = 0
    · subst h
      rw [gtl0]
      rfl
    · rw [gtl1 h, List.reverse_cons, val_snoc, ih (r / 128) (by omega)]
      omega
theorem gapB_eq (n : Nat) : gapB n = (gtl (n / 128)).reverse ++ [n % 128] := by
  unfold gapB
  rw [List.reverse_cons]
theorem val_gapB (n : Nat) : val (gapB n) = n := by
  rw [gapB_eq, val_snoc, val_gtl]
  omega
theorem gtl_len : ∀ (k r : Nat), r < 128 ^ k → (gtl r).length ≤ k
  | 0, r, h => by
    have e : r = 0 := by omega
    subst e
    rw [gtl0]
    exact Nat.zero_le _
  | k + 1, r, h => by
    by_cases z : r = 0
    · subst z
      rw [gtl0]
      exact Nat.zero_le _
    · rw [gtl1 z, List.length_cons]
      have := gtl_len k (r / 128) (by rw [Nat.pow_succ] at h; omega)
      omega
theorem gapB_len {n : Nat} (h : n < 268435456) : (gapB n).length ≤ 4 := by
  rw [gapB_eq, List.length_append, List.length_reverse]
  have := gtl_len 3 (n / 128) (by omega)
  show (gtl (n / 128)).length + 1 ≤ 4
  omega
theorem gapB_pos (n : Nat) : 0 < (gapB n).length := by
  rw [gapB_eq, List.length_append]
  show 0 < _ + 1
  omega
theorem gtl_mono (a b : Nat) (h : a ≤ b) : (gtl a).length ≤ (gtl b).length := by
  induction b using Nat.strongRecOn generalizing a with
  | _ b ih =>
    by_cases z : a = 0
    · subst z
      rw [gtl0]
      exact Nat.zero_le _
    · rw [gtl1 z, gtl1 (show b ≠ 0 by omega), List.length_cons, List.length_cons]
      have := ih (b / 128) (by omega) (a / 128) (by omega)
      omega
theorem gapB_mono {a b : Nat} (h : a ≤ b) : (gapB a).length ≤ (gapB b).length := by
  rw [gapB_eq, gapB_eq, List.length_append, List.length_append, List.length_reverse, List.length_reverse]
  have := gtl_mono (a / 128) (b / 128) (by omega)
  exact Nat.add_le_add_right this _
theorem gtl_big (r b : Nat) (h : b ∈ gtl r) : 128 ≤ b ∧ b < 256 := by
  induction r using Nat.strongRecOn with
  | _ r ih =>
    by_cases z : r = 0
    · subst z
      rw [gtl0] at h
      cases h
    · rw [gtl1 z] at h
      rcases List.mem_cons.mp h with e | e
      · omega
      · exact ih (r / 128) (by omega) e
theorem gtl_last (r b : Nat) (h : (gtl r).getLast? = some b) : b ≠ 128 := by
  induction r using Nat.strongRecOn with
  | _ r ih =>
    by_cases z : r = 0
    · subst z
      rw [gtl0] at h
      cases h
    · rw [gtl1 z] at h
      by_cases z2 : r / 128 = 0
      · rw [z2, gtl0] at h
        have e : 128 + r % 128 = b := Option.some.inj h
        omega
      · rw [List.getLast?_cons] at h
        cases q : (gtl (r / 128)).getLast? with
        | none =>
          rw [gtl1 z2] at q
          simp at q
        | some c =>
          rw [q] at h
          have e : c = b := Option.some.inj h
          subst e
          exact ih (r / 128) (by omega) q
theorem gapB_all (n b : Nat) (h : b ∈ gapB n) : b < 256 := by
  rw [gapB_eq] at h
  rcases List.mem_append.mp h with e | e
  · exact (gtl_big _ _ (List.mem_reverse.mp e)).2
  · have : b = n % 128 := by simpa using e
    omega
theorem gapB_head {n b : Nat} (h : (gapB n)[0]? = some b) (hb : 128 ≤ b) : b ≠ 128 := by
  rw [gapB_eq] at h
  cases q : (gtl (n / 128)).reverse with
  | nil =>
    rw [q] at h
    have e : n % 128 = b := Option.some.inj h
    omega
  | cons c l =>
    rw [q] at h
    have e : c = b := Option.some.inj h
    subst e
    refine gtl_last (n / 128) c ?_
    have z : gtl (n / 128) = l.reverse ++ [c] := by
      have := congrArg List.reverse q
      rw [List.reverse_reverse, List.reverse_cons] at this
      exact this
    rw [z]
    simp
theorem gapB_mid {n i b : Nat} (h : (gapB n)[i]? = some b) (hi : i + 1 < (gapB n).length) : 128 ≤ b := by
  rw [gapB_eq] at h hi
  rw [List.length_append] at hi
  have hi' : i < (gtl (n / 128)).reverse.length := by
    have : i + 1 < (gtl (n / 128)).reverse.length + 1 := hi
    omega
  rw [List.getElem?_append_left hi'] at h
  exact (gtl_big _ _ (List.mem_reverse.mp (List.mem_of_getElem? h))).1
theorem gapB_end {n i b : Nat} (h : (gapB n)[i]? = some b) (hi : i + 1 = (gapB n).length) : b < 128 := by
  rw [gapB_eq] at h hi
  rw [List.length_append] at hi
  have e : i = (gtl (n / 128)).reverse.length := by
    have : i + 1 = (gtl (n / 128)).reverse.length + 1 := hi
    omega
  subst e
  rw [List.getElem?_append_right (Nat.le_refl _), Nat.sub_self] at h
  have e : n % 128 = b := Option.some.inj h
  omega
theorem flat_len : ∀ (l : List Nat), (∀ n ∈ l, n < 268435456) → (l.flatMap gapB).length ≤ 4 * l.length
  | [], _ => Nat.zero_le _
  | n :: l, h => by
    have h1 := flat_len l fun m hm => h m (List.mem_cons_of_mem _ hm)
    have h2 := gapB_len (h n (List.mem_cons_self ..))
    rw [List.flatMap_cons, List.length_append, List.length_cons]
    omega
def nums (l : List Nat) : List V := l.map fun (n : Nat) => V.int (n : Int)
theorem nums_snoc (l : List Nat) (b : Nat) : nums (l ++ [b]) = nums l ++ [.int (b : Int)] := by
  unfold nums
  rw [List.map_append]
  rfl
theorem nums_len (l : List Nat) : (nums l).length = l.length := by
  unfold nums
  rw [List.length_map]
theorem nums_at {l : List Nat} {i b : Nat} (h : l[i]? = some b) : (nums l)[i]? = some (.int (b : Int)) := by
  unfold nums
  rw [List.getElem?_map, h]
  rfl
theorem nums_app (l r : List Nat) : nums (l ++ r) = nums l ++ nums r := by
  unfold nums
  rw [List.map_append]
theorem nums_eq (l : List Nat) : nums l = (l.map fun (n : Nat) => (n : Int)).map V.int := by
  unfold nums
  rw [List.map_map]
  rfl
theorem nums_inv {l : List Nat} {i : Nat} {y : V} (h : (nums l)[i]? = some y) : ∃ b, l[i]? = some b ∧ y = .int (b : Int) := by
  unfold nums at h
  rw [List.getElem?_map] at h
  cases e : l[i]? with
  | none => rw [e] at h; cases h
  | some x => rw [e] at h; exact ⟨x, rfl, (Option.some.inj h).symm⟩
/-! ### names of the language -/
theorem bt_isinstance : bootBuiltins ("isinstance" : Str) = some (.builtin "isinstance") := by decide +kernel
theorem bt_all : bootBuiltins ("all" : Str) = some (.builtin "all") := by decide +kernel
theorem bt_any : bootBuiltins ("any" : Str) = some (.builtin "any") := by decide +kernel
theorem bt_sum : bootBuiltins ("sum" : Str) = some (.builtin "sum") := by decide +kernel
theorem bt_sorted : bootBuiltins ("sorted" : Str) = some (.builtin "sorted") := by decide +kernel
theorem bt_min : bootBuiltins ("min" : Str) = some (.builtin "min") := by decide +kernel
theorem bt_max : bootBuiltins ("max" : Str) = some (.builtin "max") := by decide +kernel
theorem bt_ord : bootBuiltins ("ord" : Str) = some (.builtin "ord") := by decide +kernel
theorem bt_abs : bootBuiltins ("abs" : Str) = some (.builtin "abs") := by decide +kernel
theorem bt_chr : bootBuiltins ("chr" : Str) = some (.builtin "chr") := by decide +kernel
theorem bt_list : bootBuiltins ("list" : Str) = some (.type "list") := by decide +kernel
theorem bt_tuple : bootBuiltins ("tuple" : Str) = some (.type "tuple") := by decide +kernel
theorem bt_int : bootBuiltins ("int" : Str) = some (.type "int") := by decide +kernel
theorem bt_str : bootBuiltins ("str" : Str) = some (.type "str") := by decide +kernel
theorem bt_bool : bootBuiltins ("bool" : Str) = some (.type "bool") := by decide +kernel
theorem bt_dict : bootBuiltins ("dict" : Str) = some (.type "dict") := by decide +kernel
def rLenQ (K : PySem.W.Frag) : List V → Hp → VK → Prop := fun xs H Q => ∃ p ys, xs = [.ref p] ∧ (SqL K H p ys ∨ SqT K H p ys) ∧ Q (.int ys.length) H
theorem call_lenQ {X : Cx} : CallR X (.builtin "len") (rLenQ X.K) := call_len_seq
theorem map_ref {ps : List Addr} {i : Nat} {x : Addr} (h : ps[i]? = some x) : (ps.map V.ref)[i]? = some (.ref x) := by
  rw [List.getElem?_map, h]
  rfl
theorem any_rep (n : Nat) : (List.replicate n false).any id = false := by
  induction n with
  | zero => rfl
  | succ k ih => rw [List.replicate_succ, List.any_cons, ih]; rfl
theorem all_rep (n : Nat) : (List.replicate n true).all id = true := by
  induction n with
  | zero => rfl
  | succ k ih => rw [List.replicate_succ, List.all_cons, ih]; rfl
/-- gap_bytes of a number within its bounds: a new list -/
def spGapBytes : Sp := fun vs H Q _ => ∃ (n : Nat) (H0 : Hp), vs = [.int (n : Int)] ∧ n < 268435456 ∧ Ex H0 H ∧
  ∀ (p : Addr) (H' : Hp), Go (fun _ => False) H0 H H0 H' → H p = none → H' p = some (.lst (nums (gapB n))) → Q (.ref p) H'
theorem str_len (a b : Str) : (a ++ b).length = a.length + b.length := by
  first
    | exact PySem.strLen_append a b
    | exact PySem.Str.length_append a b
theorem log_small {n : Nat} (h : n < 10 ^ 40) : n.log2 < 1920 := by
  by_cases z : n = 0
  · subst z
    decide
  · rw [Nat.log2_lt z]
    exact Nat.lt_of_lt_of_le h (Nat.le_trans (show 10 ^ 40 ≤ 2 ^ 160 by decide) (Nat.pow_le_pow_right (by decide) (by decide)))
theorem txt_sz {a : Str} {i : Int} (ha : a.length ≤ 1000) (h : i.natAbs < 10 ^ 40) : (a ++ (toString i : String)).length ≤ 3000 := by
  have h2 := PyProof.Rows.int_text_len_1921 (log_small h)
  rw [str_len]
  have : (PySem.Str.ofString (toString i)).length ≤ 1921 := h2
  omega
/-! ### data that stand in a heap -/
theorem Ex.tup {K : PySem.W.Frag} {H H' : Hp} {a : Addr} {xs : List V} (e : Ex H H') (h : SqT K H a xs) : SqT K H' a xs := by
  rcases h with (h | ⟨o, h⟩) | h
  · exact .inl (.inl (e _ _ h))
  · exact .inl (.inr ⟨o, e _ _ h⟩)
  · exact .inr h
mutual
theorem dp_up {K : PySem.W.Frag} {H H' : Hp} (e : Ex H H') : ∀ (d : PyData) (v : V), Dp K H v d → Dp K H' v d
  | .none, _, h => by cases h; exact .non
  | .bool b, _, h => by cases h; exact .bl b
  | .int i, _, h => by cases h; exact .int i
  | .str x, _, h => by cases h; exact .str x
  | .list ds, _, h => by
    cases h with
    | lst hs ha => exact .lst (e.seq hs) (dpa_up e ds _ ha)
  | .tuple ds, _, h => by
    cases h with
    | tup hs ha => exact .tup (e.tup hs) (dpa_up e ds _ ha)
  | .dict _, _, h => by cases h
theorem dpa_up {K : PySem.W.Frag} {H H' : Hp} (e : Ex H H') : ∀ (ds : List PyData) (vs : List V), DpAll K H vs ds → DpAll K H' vs ds
  | [], _, h => by cases h; exact .nil
  | d :: ds, _, h => by
    cases h with
    | cons h1 h2 => exact .cons (dp_up e d _ h1) (dpa_up e ds _ h2)
end
theorem dpa_len {K : PySem.W.Frag} {H : Hp} : ∀ {ds : List PyData} {vs : List V}, DpAll K H vs ds → vs.length = ds.length
  | [], _, h => by cases h; rfl
  | d :: ds, _, h => by
    cases h with
    | cons h1 h2 => exact congrArg Nat.succ (dpa_len h2)
theorem dpa_at {K : PySem.W.Frag} {H : Hp} : ∀ (ds : List PyData) (vs : List V) (i : Nat) (d : PyData), DpAll K H vs ds → ds[i]? = some d → ∃ v, vs[i]? = some v ∧ Dp K H v d
  | [], _, _, _, _, h => by simp at h
  | d :: ds, _, 0, d', h, e => by
    cases h with
    | cons h1 h2 =>
      have e := Option.some.inj e
      subst e
      exact ⟨_, rfl, h1⟩
  | d :: ds, _, i + 1, d', h, e => by
    cases h with
    | cons h1 h2 =>
      obtain ⟨v, e1, e2⟩ := dpa_at ds _ i d' h2 e
      exact ⟨v, e1, e2⟩
theorem dep_at : ∀ {ds : List PyData} {i : Nat} {d : PyData}, ds[i]? = some d → d.depth ≤ PyData.depthAll ds
  | [], _, _, e => by simp at e
  | d :: ds, 0, d', e => by
    have e := Option.some.inj e
    subst e
    exact Nat.le_max_left _ _
  | d :: ds, i + 1, d', e => Nat.le_trans (dep_at (ds := ds) e) (Nat.le_max_right _ _)
mutual
/-- no list in it is longer than 100000 -/
def smA : PyData → Prop
  | .list xs => xs.length ≤ 100000 ∧ smAll xs
  | .tuple xs => xs.length ≤ 100000 ∧ smAll xs
  | .dict _ => False
  | .none => True
  | .bool _ => True
  | .int _ => True
  | .str _ => True
def smAll : List PyData → Prop
  | [] => True
  | x :: xs => smA x ∧ smAll xs
end
theorem sm_at : ∀ {ds : List PyData} {i : Nat} {d : PyData}, smAll ds → ds[i]? = some d → smA d
  | [], _, _, _, e => by simp at e
  | d :: ds, 0, d', h, e => by
    have e := Option.some.inj e
    subst e
    exact h.1
  | d :: ds, i + 1, d', h, e => sm_at (ds := ds) h.2 e
theorem tyL {K : PySem.W.Frag} {H : Hp} {a : Addr} {xs : List V} (h : SqL K H a xs) : TyX K H (.ref a) (.type "list") := by
  rcases h with (h | ⟨o, h⟩) | ⟨o, its, n, h1, h2, _⟩
  · exact .base (.lst h)
  · exact .base (.frz h)
  · exact .kList h1 h2
theorem tyT {K : PySem.W.Frag} {H : Hp} {a : Addr} {xs : List V} (h : SqT K H a xs) : TyX K H (.ref a) (.type "tuple") := by
  rcases h with (h | ⟨o, h⟩) | ⟨o, its, n, h1, h2, _⟩
  · exact .base (.tup h)
  · exact .fTuple h
  · exact .kTuple h1 h2
/-- the type of a datum -/
def tyOf : PyData → String
  | .none => "NoneType"
  | .bool _ => "bool"
  | .int _ => "int"
  | .str _ => "str"
  | .list _ => "list"
  | .tuple _ => "tuple"
  | .dict _ => "dict"
theorem tyD {K : PySem.W.Frag} {H : Hp} {v : V} {d : PyData} (h : Dp K H v d) : TyX K H v (.type (tyOf d)) := by
  cases h with
  | non => exact .base .non
  | bl b => exact .base (.bl b)
  | int i => exact .base (.int i)
  | str x => exact .base (.str x)
  | lst hs _ => exact tyL hs
  | tup hs _ => exact tyT hs
theorem pe_nev {X : Cx} {e : Expr} : PE X e (fun _ _ _ => False) := ⟨fun _ _ _ _ _ _ h => h.elim⟩
theorem go_ex {H0 H H0' H' : Hp} (g : Go (fun _ => False) H0 H H0' H') : Ex H H' := fun b o h => g.keep b o h fun z => z
/-! ### ifs -/
theorem ifT {c : Bool} {A B : Prop} (hc : c = true) (h : A) : if c = true then A else B := by
  rw [if_pos hc]
  exact h
theorem ifF {c : Bool} {A B : Prop} (hc : c = false) (h : B) : if c = true then A else B := by
  rw [hc, if_neg Bool.false_ne_true]
  exact h
theorem ifD {c : Prop} [Decidable c] {A B : Prop} (h1 : c → A) (h2 : ¬ c → B) : if decide c = true then A else B := by
  by_cases h : c
  · exact ifT (decide_eq_true h) (h1 h)
  · exact ifF (decide_eq_false h) (h2 h)
theorem mem_sz {n : Nat} (h : n ≤ 1000000) : n ≤ sizeLine := Nat.le_trans h (by rw [sizeLine_eq]; decide)
theorem mem_lt {n : Nat} (h : n ≤ 1000000) : n < sizeLine := Nat.lt_of_le_of_lt h (by rw [sizeLine_eq]; decide)
theorem map_int {ns : List Int} {i : Nat} {x : Int} (h : ns[i]? = some x) : (ns.map V.int)[i]? = some (.int x) := by
  rw [List.getElem?_map, h]
  rfl
theorem map_int_inv {ns : List Int} {i : Nat} {y : V} (h : (ns.map V.int)[i]? = some y) : ∃ x, ns[i]? = some x ∧ y = .int x := by
  rw [List.getElem?_map] at h
  cases e : ns[i]? with
  | none => rw [e] at h; cases h
  | some x => rw [e] at h; exact ⟨x, rfl, (Option.some.inj h).symm⟩
end Rt

namespace Rt
open PySem PySem.Spec PySem.W PySem.Calls PyProof.Rows Builtin Builtin.ObjectAttr Builtin.Getset_descriptor
/-- the class at C bears the name z -/
structure Nmd (K : PySem.W.Frag) (C : Addr) (z : Str) : Prop where
  rd : PySem.W.readsIn K C (.type "type") = true
  fc : PySem.W.findCls K (.ref C) (.type "type") "__name__" = some (.get (.builtin "getset_descriptor.__get__") (.builtin "type.__name__") (.ref C) (.type "type"))
  ty : PySem.W.typeIn K (.ref C) = some (.type "type")
  nm : ∃ o tk, K.lookup C = some o ∧ (o.slots[2]?).join = some (.str z tk)
section
variable {prog : Program} {w : World} {A : Around} {E : Value → Shared → Prop} {s : Shared} {K : PySem.W.Frag} {R : Result → Shared → Prop}
theorem name_dga (d tp : Value) (C : Addr) : descrGetArgs ⟨[d, .ref C, tp], []⟩ = pure (d, some (.ref C), given tp) := by kernel_rfl
theorem name_get {C : Addr} {z : Str} {tp : Value} (X : K.In s.heap) (N : Nmd K C z) (h : ∀ tk, R (.ok (.ret (.str z tk))) s) :
    codeAny (model prog w) A (.call (.builtin "getset_descriptor.__get__") ⟨[.builtin "type.__name__", .ref C, tp], []⟩) R s := by
  obtain ⟨o, tk, hC, hz⟩ := N.nm
  obtain ⟨hh, g, dr, t, os⟩ := s
  have L0 : PySem.W.Looks (model prog w) hh (typeOf (.ref C)) (.type "type") := looks_typeIn X N.ty
  have L1 : PySem.W.Looks (model prog w) hh (isSubtype (.type "type") (.type "type")) true := Looks.of_pure (by rw [isSubtype_type]; kernel_rfl)
  have hget : hh.get? C = some o := X _ _ hC
  refine codeAny_call_builtin KF.slot_gs.plain KF.entry_gs (KF.slot_gs.check _ _ _ _ _ _ _ _ ktyn_type (KF.args_gs _ _ _) ?_)
  unfold Builtin.«getset_descriptor.__get__» descrGet
  rw [name_dga]
  refine wpAny_bind (wpAny_pure ?_)
  unfold descrGetter descrCheckInstance descrNameAndClass isInstance
  simp only [ktyn_owner]
  repeat lk
  refine ⟨Code.quiet_builtin _ (by decide +kernel), codeAny_builtin ktyn_entry ?_⟩
  unfold Builtin.«type.__name__»
  dsimp only
  unfold Builtin.keptObject slotAt
  refine wpAny_bind (wpAny_bind (wpAny_loadPart_at hget (wpAny_pure ?_)))
  rw [hz]
  exact wpAny_pure (h tk)
/-- C.__name__ -/
theorem name_attr {C : Addr} {z : Str} {expr : Bool} {Q : Value → Shared → Prop} (X : K.In s.heap) (N : Nmd K C z) (h : ∀ tk, Q (.str z tk) { s with toks := s.toks + 1 }) : wpAny (model prog w) A (getAttr (.ref C) "__name__" expr) Q E s := by
  refine cls_bind X N.rd N.fc ?_
  exact wpAny_call (name_get (s := { s with toks := s.toks + 1 }) X N fun tk => handed_on rfl (h tk))
end
/-- what an error's class says of __class__ -/
structure ClsE (K : PySem.W.Frag) (C : Addr) : Prop where
  ga : PySem.W.findIn K (.ref C) "__getattribute__" = some (some (.builtin "BaseException.__getattribute__"))
  gg : PySem.W.findIn K (.ref C) "__getattr__" = some none
  sb : PySem.W.subIn K (.ref C) (.type "BaseException") = some true
  hd : PySem.W.hasDictIn K C = true
  ca : PySem.W.findIn K (.ref C) "__class__" = some (some (.builtin "object.__class__"))
  cg : PySem.W.specialIn K (.builtin "object.__class__") "__get__" = some (some (.builtin "getset_descriptor.__get__"))
  ct : PySem.W.takesIn K (.builtin "object.__class__") = some true
  mo : PySem.W.mroIn K C (.type "object") = some true
section
variable {prog : Program} {w : World} {A : Around} {E : Value → Shared → Prop} {s : Shared} {K : PySem.W.Frag} {x D : Addr} {ox : Obj} {od : Option Obj}
/-- x.__class__ of an error of the class at D -/
theorem cls_attr {expr : Bool} {Q : Value → Shared → Prop} (T : ClsE K D) (X : K.In s.heap) (I : PySem.W.InstAt s.heap x ox D od) (hf : PySem.W.findObj K D od "__class__" = some (.bind (.builtin "getset_descriptor.__get__") (.builtin "object.__class__")))
    (h : Q (.ref D) { s with toks := s.toks + 1 }) : wpAny (model prog w) A (getAttr (.ref x) "__class__" expr) Q E s := by
  obtain ⟨hp, g, d, t, os⟩ := s
  have K0 := I.type (M := model prog w)
  have K1 := looks_findIn (M := model prog w) X T.ga
  have K2 := looks_findIn (M := model prog w) X T.gg
  have K3 := looks_find (M := model prog w) X I hf
  have up : PySem.W.Looks (model prog w) hp (isInstance (.ref x) (.type "BaseException")) true := K0.andThen (looks_subIn X T.sb)
  have b0 : (expr && onTheHeap (Value.builtin "BaseException.__getattribute__")) = false := by cases expr <;> rfl
  have b2 : (Value.builtin "BaseException.__getattribute__" == Value.builtin "object.__getattribute__") = false := by decide +kernel
  have b1 : (onTheHeap (Value.ref D) && Value.builtin "BaseException.__getattribute__" == Value.builtin "object.__getattribute__") = false := by rw [b2]; rfl
  unfold getAttr getAttrBy
  refine wpAny_bind (wpAny_mkText ?_)
  refine wpAny_holding (wpAny_bind (K0.at (wpAny_bind (K1.at ?_))))
  show wpAny _ _ (if (onTheHeap (Value.ref D) && Value.builtin "BaseException.__getattribute__" == Value.builtin "object.__getattribute__") = true then _ else _) _ _ _
  rw [b1]
  rw [if_neg Bool.false_ne_true]
  unfold getAttrByItsOwn hookBefore
  refine wpAny_bind ?_
  rw [if_pos (show onTheHeap (Value.ref D) = true by rfl)]
  refine K2.at (wpAny_bind (wpAny_attempt ?_))
  refine wpAny_holding ?_
  unfold callGetattribute
  rw [b0]
  rw [if_neg Bool.false_ne_true]
  unfold boundAndCalled
  rw [PySem.F.excAttr_ValueError.ga.bind (Value.ref x)]
  refine wpAny_bind (wpAny_pure ?_)
  show wpAny _ _ (call (.builtin "BaseException.__getattribute__") [.ref x, .str "__class__" t]) _ _ _
  refine wpAny_call ?_
  refine codeAny_call_builtin PySem.F.excAttr_ValueError.ga.plain PySem.F.entry_bexc_ga ?_
  refine @check_slot (model prog w) _ _ ⟨hp, g, d, t + 1, os⟩ "BaseException.__getattribute__" "BaseException" "__getattribute__" (.ref x) [.str "__class__" t] [] _ (by decide +kernel) (by decide +kernel) up (PySem.F.args_bexc_ga (.ref x) (.str "__class__" t)) ?_
  unfold Builtin.«object.__getattribute__»
  refine wpAny_bind (wpAny_of_eq (a := ((Value.ref x : Value), [Value.str "__class__" t])) (by first | rfl | (simp only [slotArgs]; rfl)) ?_)
  refine wpAny_bind (wpAny_pure (wpAny_bind (K0.at ?_)))
  refine wpAny_bind (K3.at ?_)
  show wpAny _ _ (holding [Value.builtin "object.__class__"] (call (.builtin "getset_descriptor.__get__") [.builtin "object.__class__", .ref x, .ref D]) >>= ret) _ _ _
  refine wpAny_bind (wpAny_holding (wpAny_call ?_))
  refine class_get (s := ⟨hp, g, d, t + 1, os⟩) (ox := ox) (od := od) X I T.mo ?_
  first
    | exact wpAny_pure (handed_on rfl (wpAny_pure h))
    | exact wpAny_pure (handed_on rfl h)
    | exact wpAny_pure (wpAny_bind (handed_on rfl (wpAny_pure h)))
end
end Rt

namespace Rt
open PySem PySem.Spec PyProof.Rows L2
/-! ### errors with the field called -/
def tCN (K : PySem.W.Frag) (te : TE) : TE := fun σ H Q => te σ H fun x H1 => ∃ (a C : Addr) (z : Str), x = .ref a ∧ ClsE K C ∧ Nmd K C z ∧ H1 a = some (exo a C none) ∧ Q (.str z) H1
/-- self.__class__.__name__ of an error that is being made -/
theorem pe_cn {X : Cx} {o : Expr} {te : TE} {p1 p2 : Pos} (ho : PE X o te) (hb1 : attributeBase o "__class__" X.env (eval o X.env) = eval o X.env := by rfl)
    (hb2 : attributeBase (.Attribute o "__class__" p1) "__name__" X.env (eval (.Attribute o "__class__" p1) X.env) = eval (.Attribute o "__class__" p1) X.env := by rfl) :
    PE X (.Attribute (.Attribute o "__class__" p1) "__name__" p2) (tCN X.K te) := by
  refine ⟨fun pins s σ H Q I h => ?_⟩
  refine attr_of hb2 (attr_of hb1 (thn (ho.run pins s σ H _ I h) fun u s1 hh => ?_))
  obtain ⟨x, H1, I1, rx, a, C, z, ex, T, N, ea, q⟩ := hh
  subst ex
  obtain rfl : u = Value.ref a := rx
  obtain ⟨t1, he⟩ := exo_at I1.hok ea
  have J : PySem.W.InstAt s1.heap a _ C none := ⟨he, rfl, rfl, trivial⟩
  have hf := PySem.W.findObj_dataN (K := X.K) (C := C) (name := "__class__") (by obtain ⟨cd, hc, _⟩ := PySem.W.any_some T.hd; rw [hc]; rfl) T.ca T.cg T.ct
  refine cls_attr T I1.kIn J hf ?_
  have I2 := I1.tok (s1.toks + 1)
  refine name_attr I2.kIn N fun tk => ?_
  exact ⟨.str z, H1, I2.tok _, ⟨tk, rfl⟩, q⟩
/-- all that a raise asks of an error's class: its name, its class object, the word that its errors bear -/
structure Err (K : PySem.W.Frag) (mg : Str → Option Value) (x : Str) (C : Addr) (z word : Str) : Prop where
  g : mg x = some (.ref C)
  oex : OexC K C
  cls : ClsE K C
  nmd : Nmd K C z
  nc : PySem.W.findIn K (.ref C) "called" = some none
  low : Txt.lower z = word
  sz : z.length ≤ 1000
/-- TapeError.__init__ (and its like): self.called is the class's name in small letters -/
def spInit (K : PySem.W.Frag) : Sp := fun vs H Q _ => ∃ (a C : Addr) (why : V) (z : Str), vs = [.ref a, why] ∧ OexC K C ∧ ClsE K C ∧ Nmd K C z ∧ PySem.W.findIn K (.ref C) "called" = some none ∧ z.length ≤ 1000 ∧ H a = some (exo a C none) ∧
  ∀ dx, H dx = none → dx ≠ a → Q .non (upd (upd H dx (exd dx [("called", .str (Txt.lower z))])) a (exo a C (some dx)))
/-- the rule of __init__ as the program has it -/
theorem init_reads {K : PySem.W.Frag} {Q : VK} {E : XK} {vs : List V} {H : Hp} (h : spInit K vs H Q E) :
    tSeq (tDrop (tVeI K (tCons (tVar 0) (tCons (tVar 1) tNil)))) (tSeq (tAsg (tCN K (tVar 0)) (gName 2)) (tOst K "called" (tVar 0) (fun σ H Q => (tVar 2) σ H fun x H1 => ∃ a, x = .str a ∧ ([] : List V) = [] ∧ a.length ≤ 5592405 ∧ Q (.str (Txt.lower a)) H1)))
      { nx := fun _ H' => Q .non H', rt := Q } (L2.start ["self", "why", "name"] vs) H := by
  obtain ⟨a, C, why, z, rfl, T1, T2, T3, T4, hz, ha, q⟩ := h
  refine ⟨_, rfl, _, rfl, a, C, _, rfl, (by show 1 ≤ 1000; decide), T1, ha, ?_⟩
  refine ⟨_, rfl, a, C, z, rfl, T2, T3, ha, ?_⟩
  refine ⟨_, rfl, _, rfl, rfl, by omega, ?_⟩
  exact ⟨_, rfl, a, C, rfl, T1, T4, .inl ⟨ha, fun dx h1 h2 => q dx h1 h2⟩⟩
end Rt

namespace Rt
open PySem PySem.Spec PyProof.Rows L2
/-! ### several clauses, each with a name (slot i) -/
abbrev wipeEnds (i : Nat) (D : Ends) : Ends := { nx := fun τ G => D.nx (τ.set i none) G, rt := D.rt, bk := fun τ G => D.bk (τ.set i none) G, ct := fun τ G => D.ct (τ.set i none) G }
def wAll (K : PySem.W.Frag) (i : Nat) (W0 : WX) (D : Ends) : List (Value × (Addr → Value → Option Addr → TS)) → WX
  | [] => W0
  | p :: r => fun cls d τ G => ∃ b, PySem.W.exmOne K cls p.1 = some b ∧ (b = true → ∀ a, G a = none → p.2 a cls d (wipeEnds i D) (τ.set i (some (.ref a))) G) ∧ (b = false → wAll K i W0 D r cls d τ G)
inductive Hds (X : Cx) (n : Str) : List ExceptHandler → List (Value × (Addr → Value → Option Addr → TS)) → Prop
  | nil : Hds X n [] []
  | cons {x : Str} {c : Value} {ts : Addr → Value → Option Addr → TS} {b₀ : Stmt} {su : List Stmt} {np q : Pos} {hds : List ExceptHandler} {l : List (Value × (Addr → Value → Option Addr → TS))} (hc : Names X x c)
      (go : ∀ (a : Addr) (oe : Obj) (cls : Value) (d : Option Addr) (pn : List (Addr × Obj)), Zc cls d oe → (∃ vs, oe.data = .fields vs) → PSs (X.suite a ((a, oe) :: pn)) (b₀ :: su) (ts a cls d)) (r : Hds X n hds l) :
      Hds X n (.ExceptHandler (some (.Name x np)) (some n) (b₀ :: su) q :: hds) ((c, ts) :: l)
section
variable {X : Cx} {n : Str} {i : Nat} {body : List Stmt} {h1 : ExceptHandler} {hds : List ExceptHandler} {l : List (Value × (Addr → Value → Option Addr → TS))} {pos : Pos} {tb : WX → TS} {W0 : WX}
theorem ps_try_all (hs : X.stack = X.env :: X.outer) (hf : X.env.frame = some X.env.locals) (hN : X.N.Nodup) (hi : X.N[i]? = some n) (hln : X.env.kindOf n = some .local) (tk : Takes X W0)
    (hb : ∀ (W : WX) (pn : List (Addr × Obj)) (xe : Value → Shared → Prop), Takes (X.tr pn xe) W → PassesOwn (model X.prog X.w) X.A X.env xe → PSs (X.tr pn xe) body (tb W))
    (hh : Hds X n (h1 :: hds) l) : PS X (.Try body (h1 :: hds) [] [] pos) (fun D σ H => tb (wAll X.K i W0 D l) D σ H) := by
  refine ⟨fun pins s σ H D I h => ?_⟩
  have ok := I.ok
  have frm : X.A.frames = some (X.env :: X.outer) := by
    rw [ok.frames, hs]
  have nloc : Loc X.env.scope n := Or.inl hln
  have run := (hb (wAll X.K i W0 D l) (X.pn ++ pins) (fun e s₁ => wpAny (model X.prog X.w) X.A (noteFrame e X.env) (fun _ s₂ => wpAny (model X.prog X.w) X.A (setFlight e none) (fun _ s₃ =>
    wpAny (model X.prog X.w) X.A (handleBy e X.env (h1 :: hds)) (SP X pins D) X.xe s₃) X.xe s₂) X.xe s₁) (fun u s' xx => ?_) PassesOwn.looking).run [] s σ H D (I.toTry _) h
  · refine wpAny_Try_except (wpAny_mono run (fun f s1 hsp => ?_) (fun e s1 he => he))
    cases f with
    | next =>
      obtain ⟨τ, G, J, q⟩ := hsp
      exact wpAny_execs_nil ⟨τ, G, J.ofTry ok, q⟩
    | brk =>
      obtain ⟨τ, G, J, q⟩ := hsp
      exact ⟨τ, G, J.ofTry ok, q⟩
    | cont =>
      obtain ⟨τ, G, J, q⟩ := hsp
      exact ⟨τ, G, J.ofTry ok, q⟩
    | ret u =>
      obtain ⟨v, τ, G, J, r, q⟩ := hsp
      exact ⟨v, τ, G, J.ofTry ok, r, q⟩
  · obtain ⟨a, B, sI, pins', τ, G, cls, d, rfl, J', nb, up, sky, na, os, ag, w⟩ := xx
    have J : Inv X pins τ G sI := J'.ofTry ok
    have sky1 : Sky B (X.env :: X.outer) a (Zc cls d) X.env.locals s'.heap := by
      rw [← hs]; exact sky
    show wpAny (model X.prog X.w) X.A (noteFrame (.ref a) X.env) _ _ _
    refine Sky.land Zc.steady frm hf sky1 fun h3 fl3 up3 => ?_
    have J3 : Inv X pins τ G { s' with heap := h3 } := J.landed nb fl3.1 (up.trans up3) os ag
    obtain ⟨oe3, vs3, he3, hz3, hd3⟩ := fl3.there
    have off : ∀ {k : Heap} {o : Obj} {vs : Array Value}, k.FunFrames B (X.env :: X.outer) → k.get? a = some o → o.data = .fields vs → a ∉ frs (X.env :: X.outer) := by
      intro k o vs ff e dd hm
      obtain ⟨_, o', e', hnf⟩ := ff.mem hm
      rw [e] at e'
      cases e'
      exact hnf _ dd
    have nfr := off fl3.2.2.1 he3 hd3
    have nL : a ≠ X.env.locals := by
      intro z
      exact nfr (List.mem_filterMap.mpr ⟨X.env, List.mem_cons_self, by rw [hf, z]⟩)
    have nF : a ∉ X.fs := by
      intro hm
      obtain ⟨e, he, q⟩ := List.mem_filterMap.mp hm
      exact nfr (List.mem_filterMap.mpr ⟨e, List.mem_cons_of_mem _ he, q⟩)
    have S3 := J3.suite he3 hd3 na nL nF
    have go : ∀ {hds' : List ExceptHandler} {l' : List (Value × (Addr → Value → Option Addr → TS))}, Hds X n hds' l' → wAll X.K i W0 D l' cls d τ G →
        wpAny (model X.prog X.w) X.A (handleBy (.ref a) X.env hds') (SP X pins D) X.xe { s' with heap := h3 } := by
      intro hds' l' hk
      induction hk with
      | nil =>
        intro w
        refine wpAny_handleBy_nil ?_
        obtain ⟨k1, k2, k3, oe, vs, T, oT, ts', he, hz, hd, hv1, hr⟩ := id fl3
        unfold PySem.passOn
        refine wpAny_bind (wpAny_field he hd hv1 ?_)
        rw [if_neg (show ¬ ((Value.ref T == Value.none) = true) by simp)]
        have out : wpAny (model X.prog X.w) X.A (setFlight (.ref a) X.env.frame) (fun _ s4 => wpAny (model X.prog X.w) X.A (throw (.ref a) : Sem Flow) (SP X pins D) X.xe s4) X.xe { s' with heap := h3 } := by
          rw [hf]
          refine HandSPX.setFlight_upZ fl3 fun h4 hh4 up4 => ?_
          refine wpAny_throw (tk _ _ ⟨a, B, sI, pins, τ, G, cls, d, rfl, J, nb, (up.trans up3).trans up4, ?_, na, os, ag, w⟩)
          exact Or.inr (Or.inr (by rw [hs]; exact hh4))
        first
          | exact wpAny_bind (wpAny_pure (wpAny_bind out))
          | exact wpAny_bind out
      | @cons x c ts b₀ su np q hds2 l2 hc hsu r ih =>
        intro w
        obtain ⟨b, hb1, hyes, hno⟩ := w
        refine wpAny_handleBy_cons (codeAny_handlers_test ?_) (by intro q; cases q)
        have LT : PySem.W.Looks (model X.prog X.w) h3 (typeOf (.ref a)) cls := by
          intro A Q E s k q
          exact wpAny_typeOf_ref (k _ _ he3) (by rw [hz3.1]; exact q)
        have LM := PySem.W.exm_one (M := model X.prog X.w) (J3.kIn) LT hb1
        have test : ∀ {Q : Value → Shared → Prop} {E : Value → Shared → Prop}, Q c { s' with heap := h3 } → wpAny (model X.prog X.w) (X.A.mark (some (.ref a))) (eval (.Name x np) X.env) Q E { s' with heap := h3 } := by
          intro Q E q
          obtain ⟨hg, hdbg, hm⟩ := hc
          rcases hm with hm | ⟨hm, hv, hnn⟩
          · exact ld_glob (X := X.suite a ((a, oe3) :: (X.pn ++ pins))) S3 hg hm q hdbg
          · exact ld_blt (X := X.suite a ((a, oe3) :: (X.pn ++ pins))) S3 hg hm hv q hnn hdbg
        refine test (LM.here ?_)
        cases b with
        | false =>
          show wpAny _ X.A (handleBy (.ref a) X.env hds2) _ _ _
          exact ih (hno rfl)
        | true =>
          refine codeAny_handlers_suite_as (HandSPX.lands_againZ fl3 fun h4 fl4 up4 => ?_)
          have J4 : Inv X pins τ G { s' with heap := h4 } := J.landed nb fl4.1 ((up.trans up3).trans up4) os ag
          obtain ⟨oe4, vs4, he4, hz4, hd4⟩ := fl4.there
          have S4 := J4.suite he4 hd4 na nL nF
          refine store_ok (X := X.suite a ((a, oe4) :: (X.pn ++ pins))) (v := .ref a) S4 hN hi nloc rfl (fun s5 S5 => ?_) (Or.inr hln)
          have fin : ∀ {τ6 : L2.St} {G6 : Hp} {s6 : Shared} {Q : Shared → Prop}, Inv (X.suite a ((a, oe4) :: (X.pn ++ pins))) [] τ6 G6 s6 → (∀ s7, Inv X pins (τ6.set i none) G6 s7 → Q s7) →
              wpAny (model X.prog X.w) X.A (do bindName X.env n .none; unbindBehindTheSuite X.env n q) (fun _ s7 => Q s7) X.xe s6 := by
            intro τ6 G6 s6 Q S6 hq
            exact gone_ok (S6.unsuite ok) hN hi hln hq
          refine wpAny_mono ((hsu a oe4 cls d (X.pn ++ pins) hz4 ⟨_, hd4⟩).run [] s5 _ G _ S5 (hyes rfl a na)) (fun f s6 hsp => ?_) (fun _ _ z => False.elim z)
          cases f with
          | next =>
            obtain ⟨τ6, G6, S6, q6⟩ := hsp
            exact fin S6 fun s7 J7 => ⟨_, _, J7, q6⟩
          | brk =>
            obtain ⟨τ6, G6, S6, q6⟩ := hsp
            exact fin S6 fun s7 J7 => ⟨_, _, J7, q6⟩
          | cont =>
            obtain ⟨τ6, G6, S6, q6⟩ := hsp
            exact fin S6 fun s7 J7 => ⟨_, _, J7, q6⟩
          | ret u =>
            obtain ⟨v6, τ6, G6, S6, r6, q6⟩ := hsp
            exact fin S6 fun s7 J7 => ⟨_, _, _, J7, r6, q6⟩
    exact go hh w
end
end Rt

namespace Rt
open PySem PySem.Spec PyProof.Rows L2
/-- an error of the program, in flight: its class bears word (tape: under TapeError, else under MissingError); nothing else is turned -/
structure Raised (K : PySem.W.Frag) (mg : Str → Option Value) (word : Str) (tape : Bool) (H : Hp) (cls : Value) (d : Option Addr) (H' : Hp) : Prop where
  ex : ∃ (C CT CM dd : Addr), cls = .ref C ∧ d = some dd ∧ H dd = none ∧ H' = upd H dd (.xd [("called", .str word)]) ∧ XfC K C ∧ PySem.W.findIn K (.ref C) "called" = some none ∧
    mg "TapeError" = some (.ref CT) ∧ mg "MissingError" = some (.ref CM) ∧ PySem.W.exmOne K (.ref C) (.ref CT) = some tape ∧ (tape = false → PySem.W.exmOne K (.ref C) (.ref CM) = some true)
/-- an error's class with its __init__ (level k) -/
structure ErrK (P : Program) (w : World) (K : PySem.W.Frag) (mg : Str → Option Value) (base : Heap) (k : Nat) (x word : Str) (tape : Bool) : Prop where
  ex : ∃ (C CT CM fI : Addr) (z : Str) (fd : FuncData), Err K mg x C z word ∧ PySem.W.findIn K (.ref C) "__init__" = some (some (.ref fI)) ∧ PySem.W.typeIn K (.ref fI) = some (.type "function") ∧
    FnOk P w K mg base CX0 k fI fd ["self", "why"] (spInit K) ∧ Binds K fd ["self", "why"] [] ∧ XfC K C ∧
    mg "TapeError" = some (.ref CT) ∧ mg "MissingError" = some (.ref CM) ∧ PySem.W.exmOne K (.ref C) (.ref CT) = some tape ∧ (tape = false → PySem.W.exmOne K (.ref C) (.ref CM) = some true)
/-- raise X(why) -/
def tRaiseK (K : PySem.W.Frag) (mg : Str → Option Value) (word : Str) (tape : Bool) (W : WX) (ta : TA) : TS := fun _ σ H => ta σ H fun vs H1 => ∃ why, vs = [why] ∧ ∀ cls d H', Raised K mg word tape H1 cls d H' → W cls d σ H'
/-- a reading with room: what is read may be weakened -/
def tUp (ta : TA) : TA := fun σ H Q => ∃ R : List V → Hp → Prop, ta σ H R ∧ ∀ vs H1, R vs H1 → Q vs H1
theorem pa_up {X : Cx} {es : List Expr} {ta : TA} (ha : PA X es ta) : PA X es (tUp ta) := ⟨fun pos pins s σ H Q I ⟨R, h, imp⟩ => thn (ha.run pos pins s σ H R I h) fun us s1 ⟨vs, H1, I1, r, q⟩ => ⟨vs, H1, I1, r, imp vs H1 q⟩⟩
section
variable {X : Cx} {x word : Str} {tape : Bool} {k : Nat} {e : Expr} {es : List Expr} {ta : TA} {W : WX} {p pos pos2 : Pos}
theorem ps_raiseK (hc : X.calm = true) (T : ErrK X.prog X.w X.K X.mg X.base k x word tape) (hr : Room (k + 1) X.A) (tk : Takes X W) (hg : Gl X x) (ha : PA X (e :: es) ta) (hdb : (x == ("__debug__" : Str)) = false := by decide)
    (he : starEach (e :: es) X.env = (false, eval e X.env) :: starEach es X.env := by rfl) (hpl : (backTo pos (starEach es X.env)).any (·.1) = false := by rfl) :
    PS X (.Raise (some (.Call (.Name x p) (e :: es) [] pos)) none pos2) (tRaiseK X.K X.mg word tape W ta) := by
  obtain ⟨C, CT, CM, fI, z, fd, R, iC, tI, F1, hb, xf, g1, g2, m1, m2⟩ := T.ex
  have mk := pmk_oex (X := X) (CX := CX0) (p := p) (pos := pos) R.oex iC tI F1 hr hb .nil pass0 hg R.g (pa_up ha) hdb he hpl
  have rs := ps_raise (pos := pos2) hc tk mk
  refine ⟨fun pins s σ H D I h => rs.run pins s σ H D I ?_⟩
  -- from our reading to the rule's
  have imp : ∀ (vs : List V) (H1 : Hp), (∃ why, vs = [why] ∧ ∀ cls d H', Raised X.K X.mg word tape H1 cls d H' → W cls d σ H') →
      vs.length ≤ 1000 ∧ ∀ a, H1 a = none → spInit X.K (.ref a :: (vs ++ [])) (upd H1 a (exo a C none))
        (fun v H2 => v = .non ∧ ∃ (d : Addr) (fs : List (Str × V)), H2 a = some (exo a C (some d)) ∧ H2 d = some (exd d fs) ∧ H1 d = none ∧ W (.ref C) (some d) σ (upd (del H2 a) d (.xd fs))) (fun _ _ _ => False) := by
    rintro vs H1 ⟨why, rfl, q⟩
    refine ⟨(by show 1 ≤ 1000; decide), fun a ha => ⟨a, C, why, z, rfl, R.oex, R.cls, R.nmd, R.nc, R.sz, upd_same, fun dx hdx nda => ⟨rfl, dx, [("called", .str (Txt.lower z))], upd_same, ?_, ?_, ?_⟩⟩⟩
    · rw [upd_ne nda, upd_same]
    · rw [upd_ne nda] at hdx
      exact hdx
    · rw [upd_ne nda] at hdx
      refine q _ _ _ ⟨C, CT, CM, dx, rfl, rfl, hdx, ?_, xf, R.nc, g1, g2, m1, m2⟩
      funext b
      by_cases e1 : b = dx
      · rw [e1, upd_same, upd_same, R.low]
      · rw [upd_ne e1, upd_ne e1]
        by_cases e2 : b = a
        · rw [e2, del_same, ha]
        · rw [del_ne e2, upd_ne e2, upd_ne e1, upd_ne e2]
  exact ⟨_, h, imp⟩
end
end Rt

namespace Rt
open PySem PySem.Spec PyProof.Rows L2 LamX
/-! ### a def that is handed a lambda and calls it; what is raised is wished for at the slots -/
section
variable {X : Cx} {pins : List (Addr × Obj)} {σ : L2.St} {H : Hp} {s : Shared}
theorem pe_ask {CXg : CXT} {Eg : XK} {Ng : List Str} {qg : Str} {sg : Scope} {g f c' : Addr} {cdg pm ctv : Value} {params : Arguments} {body : Expr} {scope : Scope} {k i : Nat} {a : Str} {pn : List (Addr × Obj)} {xe : Value → Shared → Prop} {W : WX} {tb : XK → TE} {p1 p2 : Pos}
    (I : Inv X pins σ H s) (L : LamS X.env.scope scope) (hf : s.heap.get? f = some (PySem.W.kla_obj "<lambda>" (X.env.qual ++ "<lambda>") params body scope (cloFrom X.env.cells scope.names []) pm c' ctv)) (hfn : H f = none) (hfr : f ∉ frs X.stack)
    (hbind : bindArgs (PySem.W.kla_fn "<lambda>" (X.env.qual ++ "<lambda>") params body scope (cloFrom X.env.cells scope.names []) pm (.ref c') ctv) ⟨[], []⟩ = pure [])
    (tk : Takes ((cxOf CXg X.prog X.w X.K X.mg X.base Ng qg sg g cdg X.A X.stack s H Eg).tr pn xe) W) (hr : Room (k + 1) (X.A.deeper (envOfC qg sg s.heap.objs.size g cdg)))
    (hbody : ∀ (E : XK) (A : Around) (outer : List Env) (s : Shared) (H : Hp), Room k (A.deeper (lamEnv X scope s.heap.objs.size f c')) → PE (lamCx X A outer s H E scope f c') body (tb E))
    (hN : Ng[i]? = some a) (hv : Vis sg a) (hd : (a == ("__debug__" : Str)) = false := by decide) (hcd : (a == ("__classdict__" : Str)) = false := by decide) :
    PE ((cxOf CXg X.prog X.w X.K X.mg X.base Ng qg sg g cdg X.A X.stack s H Eg).tr pn xe) (.Call (.Name a p1) [] [] p2)
      (fun τ G Q => τ[i]? = some (some (.ref f)) ∧ G c' = some (CodeO c' (X.env.qual ++ "<lambda>")) ∧ ∃ (Ec : XK) (R : VK), (∀ cls d G', Ec cls d G' → W cls d τ G') ∧ (∀ v G', R v G' → Q v G') ∧ tb Ec σ G R) := by
  refine ⟨fun pinsZ sZ τ G Q IZ h => ?_⟩
  obtain ⟨hs, hc, Ec, R, hW, hR, ht⟩ := h
  have nm := (pe_var (X := (cxOf CXg X.prog X.w X.K X.mg X.base Ng qg sg g cdg X.A X.stack s H Eg).tr pn xe) (pos := p1) (i := i) hN hv hd hcd).run pinsZ sZ τ G (fun v H1 => v = .ref f ∧ H1 = G) IZ ⟨.ref f, hs, rfl, rfl⟩
  refine wpAny_Call_Name_kw (thn nm fun u s1 hu => ?_)
  obtain ⟨v, H1, I1, r1, ev, eH⟩ := hu
  subst ev
  rw [eH] at I1
  obtain rfl : u = Value.ref f := r1
  have un : Un (frs X.stack) [] H G s.heap s1.heap := I1.base
  have of1 := un.keep f _ hf hfn hfr (fun z => nomatch (show f ∈ ([] : List Addr) from z))
  refine PySem.W.callWith_F0 ⟨_, _, _, _, of1⟩ ?_
  obtain ⟨⟨oc, vs, t, hoc, hdc, hvc⟩, _, _⟩ := I1.hok c' _ hc
  have rc : codeAny (model X.prog X.w) (X.A.deeper (envOfC qg sg s.heap.objs.size g cdg)) (.call (.ref f) ⟨[], []⟩)
      (CR (L2.CX X.prog X.w) (envOfC qg sg s.heap.objs.size g cdg :: X.stack) X.prog X.w G s1 Q Ec) s1 := by
    refine PySem.W.kla_callFunE hr.depth of1 rfl L.co L.gen rfl ⟨c', oc, vs, t, rfl, hoc, hdc, hvc⟩ ?_
    rw [hbind]
    refine wpAny_pure (wpAny_newFunctionEnv (fun y hy => (L.own y hy).2) (fun y hy => absurd hy (by simp)) (fun h₁ hns hsb => ?_) L.kind)
    refine ⟨I1.nolimit.fresh _ hsb, ?_⟩
    show codeAny _ _ (.expr body (lamEnv X scope s1.heap.objs.size f c')) _ _
    have kp : ∀ b o, s1.heap.get? b = some o → h₁.get? b = some o := by
      intro b o e
      exact hsb.extBut b o (Nat.ne_of_lt (Heap.lt_size e)) (Heap.get?_push_of_some _ e)
    have J : Inv (lamCx X (X.A.deeper (envOfC qg sg s.heap.objs.size g cdg)) (envOfC qg sg s.heap.objs.size g cdg :: X.stack) s1 G Ec scope f c') [] σ G
        { s1 with heap := h₁, toks := s1.toks + ([] : List (Str × Value)).length } := lam_start2 I L I1.env0 hr.hd un hns kp
    refine PySem.W.kla_codeExpr (wpAny_mono ((hbody Ec _ _ s1 G (hr.deeper _)).run [] _ _ G R J ht) (fun v s' hq => ?_) fun e s' hq => hq)
    obtain ⟨w', H', J', rv, q⟩ := hq
    exact ⟨w', H', J'.os, J'.bare, J'.base, J'.hok, rv, hR _ _ q⟩
  refine wpAny_call (codeAny_mono rc fun r s' hq => ?_)
  cases r with
  | error e => exact tk e s' (XE.of_call I1 (fun cls d G' hE => hW cls d G' hE) hq)
  | ok fl =>
    cases fl with
    | ret u => exact I1.after hq
    | next => exact False.elim hq
    | brk => exact False.elim hq
    | cont => exact False.elim hq
end
/-- the def with its lambda in slot 0; TT: what it makes of the lambda's reading (tl E H Q: E what is wished of an error) -/
def Asks (X : Cx) (Ng : List Str) (x : Str) (sg : Scope) (g : Addr) (cdg : Value) (bg : List Stmt) (a : Str) (q : Str) (TT : (XK → Hp → VK → Prop) → Hp → VK → Prop) : Prop :=
  ∀ (f c' : Addr) (s : Shared) (H : Hp) (Q : VK) (tl : XK → Hp → VK → Prop),
    (∀ (W : WX) (pn : List (Addr × Obj)) (xe : Value → Shared → Prop) (p1 p2 : Pos), Takes ((cxOf C8.CX0 X.prog X.w X.K X.mg X.base Ng x sg g cdg X.A X.stack s H C8.E0).tr pn xe) W →
      PE ((cxOf C8.CX0 X.prog X.w X.K X.mg X.base Ng x sg g cdg X.A X.stack s H C8.E0).tr pn xe) (.Call (.Name a p1) [] [] p2) (fun τ G Q => τ[0]? = some (some (.ref f)) ∧ G c' = some (CodeO c' q) ∧ ∃ (Ec : XK) (R : VK), (∀ cls d G', Ec cls d G' → W cls d τ G') ∧ (∀ v G', R v G' → Q v G') ∧ tl Ec G R)) →
    H c' = some (CodeO c' q) → TT tl H Q →
    ∃ t, PSs (cxOf C8.CX0 X.prog X.w X.K X.mg X.base Ng x sg g cdg X.A X.stack s H C8.E0).nox bg t ∧ t { nx := fun _ H' => Q .non H', rt := Q } (L2.start Ng [.ref f]) H
section
variable {X : Cx}
/-- x(lambda: body) -/
theorem pe_asks {T : List (Addr × Str)} {TT : (XK → Hp → VK → Prop) → Hp → VK → Prop} {x a : Str} {g c P : Addr} {k : Nat} {pg : Arguments} {bg : List Stmt} {sg : Scope} {dV kV doc pm cdv ct oc : Value} {an od : Option Addr} {osl : Array (Option Value)} {Ng : List Str}
    {params : Arguments} {body : Expr} {scope : Scope} {t : XK → TE} {p lpos pos : Pos} (hg : Gl X x) (hm : X.mg x = some (.ref g)) (hk : PySem.W.keepIn X.K (.ref g) = true)
    (lk : X.K.lookup g = some ⟨oc, od, .func (PySem.W.fnOf x x pg bg sg dV kV doc pm an cdv ct), osl⟩) (hcg : PySem.W.codeIn X.K cdv x = true) (hb : L2.Binds X.K (PySem.W.fnOf x x pg bg sg dV kV doc pm an cdv ct) [a] []) (Sg : FnScope Ng [a] sg) (hNg : Ng[0]? = some a) (hva : Vis sg a)
    (hG : Asks X Ng x sg g cdv bg a (X.env.qual ++ "<lambda>") TT)
    (TB : TabB X.base X.mg c P) (hcode : X.env.code = .ref c) (hmT : (P, X.env.qual ++ "<lambda>") ∈ T) (hu : ∀ p ∈ T, p.1 = P → p.2 = X.env.qual ++ "<lambda>") (hr : Room (k + 2) X.A) (L : LamS X.env.scope scope) (hdef : defaultsOf params X.env = ([], []))
    (hbind : ∀ (q : Str) (cl : List (Str × Addr)) (pm cv ctv : Value), bindArgs (PySem.W.kla_fn "<lambda>" q params body scope cl pm cv ctv) ⟨[], []⟩ = pure [])
    (hbody : ∀ (E : XK) (A : Around) (outer : List Env) (s : Shared) (H : Hp) (f c' : Addr), Room k (A.deeper (lamEnv X scope s.heap.objs.size f c')) → PE (lamCx X A outer s H E scope f c') body (t E))
    (hdb : (x == ("__debug__" : Str)) = false := by decide) (hd : (a == ("__debug__" : Str)) = false := by decide) (hcd : (a == ("__classdict__" : Str)) = false := by decide) :
    PE X (.Call (.Name x p) [.Lambda params body scope lpos] [] pos) (tLam T TT t) := by
  refine ⟨fun pins s σ H Q I ⟨hT, h⟩ => ?_⟩
  refine wpAny_Call_Name_kw (ld_glob I hg hm ?_ hdb)
  refine PySem.W.callWith_K (h₀ := X.base) I.ok.mod.kin hk ?_ (by rfl) (by rfl)
  show wpAny _ _ (spliced ((false, eval (.Lambda params body scope lpos) X.env) :: backTo pos (starEach [] X.env))) _ _ s
  have made := fun (Q : Value → Shared → Prop) (E : Value → Shared → Prop) => lam_make2 (Q := Q) (E := E) (params := params) (body := body) (pos := lpos) I TB hcode hmT hu hT hdef (L.has I.ok)
  refine Calls.spliced_cons (made _ _ ?_)
  intro f c' pm' ctv H1 s' I1 eN T1 hf hfn hfr hco
  refine Calls.spliced_nil ⟨I1.kIn, ?_⟩
  have rc : codeAny (model X.prog X.w) X.A (.call (.ref g) ⟨[.ref f], []⟩) (CR C8.CX0 X.stack X.prog X.w H1 s' Q C8.E0) s' := by
    refine run_ofS (N := Ng) (ps := [a]) (us := [.ref f]) (vs := [.ref f]) lk hcg Sg hr I1.env0 (hb s' [.ref f] I1.kIn rfl) (.cons rfl .nil) rfl fun hr' => ?_
    have act := fun (W : WX) (pn : List (Addr × Obj)) (xe : Value → Shared → Prop) (p1 p2 : Pos) (tk : Takes ((cxOf C8.CX0 X.prog X.w X.K X.mg X.base Ng x sg g cdv X.A X.stack s' H1 C8.E0).tr pn xe) W) =>
      pe_ask (i := 0) (p1 := p1) (p2 := p2) (tb := t) I1 L hf hfn hfr (hbind _ _ _ _ _) tk hr' (fun E A outer s H hr2 => hbody E A outer s H f c' hr2) hNg hva hd hcd
    obtain ⟨t', ht', hq'⟩ := hG f c' s' H1 Q (fun E H' Q' => t E σ H' Q') act hco (h H1 eN T1)
    exact ⟨t', ht'.nox, hq'⟩
  refine wpAny_call (codeAny_mono rc fun r s2 hq => ?_)
  cases r with
  | error e => exact False.elim (show False from hq)
  | ok fl =>
    cases fl with
    | ret u => exact I1.after hq
    | next => exact False.elim hq
    | brk => exact False.elim hq
    | cont => exact False.elim hq
end
/-- e.f of the error that a suite holds, whatever its class -/
theorem pe_xfA {X : Cx} {a : Addr} {oe : Obj} {cls : Value} {d : Option Addr} {pn : List (Addr × Obj)} {e : Expr} {te : TE} {pos : Pos} {n : Str} (hz : Zc cls d oe) (hf : ∃ vs, oe.data = .fields vs) (he : PE (X.suite a ((a, oe) :: pn)) e te)
    (hb : attributeBase e n X.env (eval e X.env) = eval e X.env := by rfl) :
    PE (X.suite a ((a, oe) :: pn)) (.Attribute e n pos) (fun σ H Q => ∃ C, XfC X.K C ∧ PySem.W.findIn X.K (.ref C) n = some none ∧ tXf a cls d C n te σ H Q) :=
  ⟨fun pins s σ H Q I ⟨C, T, hno, h⟩ => (pe_xf T hno hz hf he hb).run pins s σ H Q I h⟩
end Rt

namespace Rt
open PySem PySem.Spec PyProof.Rows L2 LamX
/-- a def of the text that may let an error out -/
structure DefX (P : Program) (w : World) (K : PySem.W.Frag) (mg : Str → Option Value) (base : Heap) (x : Str) (k : Nat) (sp : Sp) : Prop where
  ex : ∃ (f : Addr) (fd : FuncData) (ps : List Str), mg x = some (.ref f) ∧ FnOk P w K mg base (L2.CX P w) k f fd ps sp ∧ PySem.W.keepIn K (.ref f) = true ∧ Binds K fd ps []
section
variable {X : Cx} {x : Str} {p pos : Pos} {e : Expr} {es : List Expr} {t : TA} {k : Nat} {sp : Sp} {W : WX}
theorem pe_dx (D : DefX X.prog X.w X.K X.mg X.base x k sp) (hr : Room k X.A) (hg : Gl X x) (tk : Takes X W) (ha : PA X (e :: es) t) (hdb : (x == ("__debug__" : Str)) = false := by decide)
    (he : starEach (e :: es) X.env = (false, eval e X.env) :: starEach es X.env := by rfl) (hpl : (backTo pos (starEach es X.env)).any (·.1) = false := by rfl) :
    PE X (.Call (.Name x p) (e :: es) [] pos) (tCallS sp (WE W) t) := by
  obtain ⟨f, fd, ps, h1, h2, h3, h4⟩ := D.ex
  exact pe_callS h2 hr hg h1 h3 h4 (fun σ => passAt tk σ) ha hdb he hpl
end
section
variable {P : Program} {w : World} {K : PySem.W.Frag} {mg : Str → Option Value} {base : Heap}
/-- a def whose code object is known -/
theorem okC {x qual : Str} {st : Stmt} {f c : Addr} {fd : FuncData} {N ps : List Str} {k : Nat} {sp : Sp} (F : Fun K x qual st f fd) (hcode : fd.code = .ref c) (S : FnScope N ps (defScope st)) (len : ∀ vs H Q E, sp vs H Q E → vs.length = ps.length)
    (hbody : ∀ (A : Around) (outer : List Env) (s : Shared) (H : Hp) (vs : List V) (Q : VK) (E : XK), Room k (A.deeper (envOfC qual (defScope st) s.heap.objs.size f (.ref c))) → sp vs H Q E →
      ∃ t, PSs (cxOf CX0 P w K mg base N qual (defScope st) f (.ref c) A outer s H E).nox (defBody st) t ∧ t { nx := fun _ H' => Q .non H', rt := Q } (L2.start N vs) H) : FnOk P w K mg base CX0 (k + 1) f fd ps sp := by
  obtain ⟨oc, od, kV, doc, pm, an, cdv, ct, osl, rfl, lk, hcd⟩ := F.ex
  have e : cdv = .ref c := hcode
  subst e
  refine fn_of lk hcd S len fun A outer s H vs Q E hr hsp => ?_
  obtain ⟨t, h, q⟩ := hbody A outer s H vs Q E hr hsp
  exact ⟨t, h.nox, q⟩
end
/-! ### tables of code objects -/
theorem tabs_but {T : List (Addr × Str)} {H H' : Hp} {d : Addr} {xs : List V} (t : Tabs T H) (hd : H d = some (.lst xs)) (k : ∀ b o, H b = some o → b ≠ d → H' b = some o) : Tabs T H' := by
  intro p hp
  obtain ⟨ps, h1, h2, h3⟩ := t p hp
  refine ⟨ps, k _ _ h1 (fun z => ?_), h2, fun pos cv hc => ?_⟩
  · rw [z, hd] at h1
    cases h1
  · obtain ⟨c, e1, e2⟩ := h3 pos cv hc
    refine ⟨c, e1, k _ _ e2 fun z => ?_⟩
    rw [z, hd] at e2
    unfold CodeO at e2
    cases e2
/-- nothing settled is a table -/
def NoTab (H0 : Hp) : Prop := ∀ b ps, H0 b ≠ some (.tbl ps)
theorem NoTab.upd {H0 : Hp} {p : Addr} {o : HO} (h : NoTab H0) (n : ∀ ps, o ≠ .tbl ps) : NoTab (upd H0 p o) := fun b ps z => by
  by_cases e : b = p
  · rw [e, upd_same] at z
    exact n ps (Option.some.inj z)
  · rw [upd_ne e] at z
    exact h b ps z
theorem Ex.extN {H0 H H' : Hp} (e : Ex H0 H) (n : NoTab H0) (x : ExtN H H') : Ex H0 H' := fun b o h => x b o (e b o h) fun ps z => n b ps (z ▸ h)
theorem Dr.extN {H0 H H' : Hp} {d : Addr} (x : Dr H0 H d) (e : ExtN H H') : Dr H0 H' d := by
  obtain ⟨⟨a, ns, i, j, k, l, h1, h2⟩, n⟩ := x
  exact ⟨⟨a, ns, i, j, k, l, e _ _ h1 (fun ps z => nomatch z), h2⟩, n⟩
/-- the least that a drawing needs -/
theorem Dr.least {H0 H : Hp} {d : Addr} (x : Dr H0 H d) (e : Ex H0 H) : ∃ A0 : Hp, Ex A0 H ∧ Dr A0 H d ∧ NoTab A0 := by
  obtain ⟨⟨a, ns, i, j, k, l, h1, h2, h3⟩, n⟩ := x
  refine ⟨upd (fun _ => none) a (.lst (ns.map V.int)), fun b o h => ?_, ⟨⟨a, ns, i, j, k, l, h1, upd_same, h3⟩, ?_⟩, NoTab.upd (fun b ps z => nomatch z) (fun ps z => nomatch z)⟩
  · by_cases z : b = a
    · rw [z, upd_same] at h
      cases h
      rw [z]
      exact e _ _ h2
    · rw [upd_ne z] at h
      cases h
  · have nda : d ≠ a := fun z => by
      rw [z, h2] at n
      cases n
    rw [upd_ne nda]
theorem Dr.lst {H0 H : Hp} {d : Addr} (x : Dr H0 H d) : ∃ xs, H d = some (.lst xs) := by
  obtain ⟨⟨a, ns, i, j, k, l, h1, _⟩, _⟩ := x
  exact ⟨_, h1⟩
/-- across a drawing step -/
theorem tabs_go {T : List (Addr × Str)} {H0 H H0' H' : Hp} {d : Addr} (t : Tabs T H) (x : Dr H0 H d) (g : Go (· = d) H0 H H0' H') : Tabs T H' := by
  obtain ⟨xs, hd⟩ := x.lst
  exact tabs_but t hd fun b o h n => g.keep b o h n
theorem tabs_new {T : List (Addr × Str)} {H : Hp} {p : Addr} {o : HO} (t : Tabs T H) (h : H p = none) : Tabs T (upd H p o) := t.ext fun b u e => by
  rw [upd_ne (ne_of_none e h)]
  exact e
end Rt

namespace Rt
open PySem PySem.Spec PyProof.Rows L2 LamX
/-- all that is read off the written part of an error's class -/
structure ErrF (K : PySem.W.Frag) (x z word : Str) (C CT CM fI : Addr) (tape : Bool) : Prop where
  g : PySem.W.nsIn K mainGlobals x = some (some (.ref C))
  gT : PySem.W.nsIn K mainGlobals "TapeError" = some (some (.ref CT))
  gM : PySem.W.nsIn K mainGlobals "MissingError" = some (some (.ref CM))
  cls : ∃ nm q N bs bm sn sub ab col dd k0 k1 k2 k3 k5, K.lookup C = some (excClassObj nm q C N bs bm true sn sub ab col dd k0 k1 k2 k3 k5 "ValueError.__new__") ∧ PySem.HandSPX.refsVE bm = true
  nm : ∃ o tk, K.lookup C = some o ∧ (o.slots[2]?).join = some (.str z tk)
  sa : PySem.W.findIn K (.ref C) "__setattr__" = some (some (.builtin "object.__setattr__"))
  exC : PySem.W.subIn K (.ref C) (.type "BaseException") = some true
  tyC : PySem.W.typeIn K (.ref C) = some (.type "type")
  kC : PySem.W.keepIn K (.ref C) = true
  ga : PySem.W.findIn K (.ref C) "__getattribute__" = some (some (.builtin "BaseException.__getattribute__"))
  gg : PySem.W.findIn K (.ref C) "__getattr__" = some none
  hd : PySem.W.hasDictIn K C = true
  ca : PySem.W.findIn K (.ref C) "__class__" = some (some (.builtin "object.__class__"))
  cg : PySem.W.specialIn K (.builtin "object.__class__") "__get__" = some (some (.builtin "getset_descriptor.__get__"))
  ct : PySem.W.takesIn K (.builtin "object.__class__") = some true
  mo : PySem.W.mroIn K C (.type "object") = some true
  rd : PySem.W.readsIn K C (.type "type") = true
  fc : PySem.W.findCls K (.ref C) (.type "type") "__name__" = some (.get (.builtin "getset_descriptor.__get__") (.builtin "type.__name__") (.ref C) (.type "type"))
  nc : PySem.W.findIn K (.ref C) "called" = some none
  iC : PySem.W.findIn K (.ref C) "__init__" = some (some (.ref fI))
  tI : PySem.W.typeIn K (.ref fI) = some (.type "function")
  t1 : PySem.W.subIn K (.ref CT) (.type "BaseException") = some true
  t2 : PySem.W.hasDictIn K CT = true
  t3 : PySem.W.typeIn K (.ref CT) = some (.type "type")
  t4 : PySem.W.subIn K (.ref C) (.ref CT) = some tape
  u1 : PySem.W.subIn K (.ref CM) (.type "BaseException") = some true
  u2 : PySem.W.hasDictIn K CM = true
  u3 : PySem.W.typeIn K (.ref CM) = some (.type "type")
  u4 : PySem.W.subIn K (.ref C) (.ref CM) = some (!tape)
  low : Txt.lower z = word
  sz : z.length ≤ 1000
theorem errF_of {K : PySem.W.Frag} {x z word : Str} {C CT CM fI : Addr} {tape : Bool} {nm q : Str} {N : Addr} {bs bm : List Value} {sn : List Str} {sub : List Value} {ab : Bool} {col : Option Bool} {dd : Option Addr} {k0 k1 k2 k3 k5 : Option Value} {o : Obj} {tk : Tok}
    (g : PySem.W.nsIn K mainGlobals x = some (some (.ref C)))
    (gT : PySem.W.nsIn K mainGlobals "TapeError" = some (some (.ref CT)))
    (gM : PySem.W.nsIn K mainGlobals "MissingError" = some (some (.ref CM)))
    (cls1 : K.lookup C = some (excClassObj nm q C N bs bm true sn sub ab col dd k0 k1 k2 k3 k5 "ValueError.__new__")) (cls2 : PySem.HandSPX.refsVE bm = true)
    (nm1 : K.lookup C = some o) (nm2 : (o.slots[2]?).join = some (.str z tk))
    (sa : PySem.W.findIn K (.ref C) "__setattr__" = some (some (.builtin "object.__setattr__")))
    (exC : PySem.W.subIn K (.ref C) (.type "BaseException") = some true)
    (tyC : PySem.W.typeIn K (.ref C) = some (.type "type"))
    (kC : PySem.W.keepIn K (.ref C) = true)
    (ga : PySem.W.findIn K (.ref C) "__getattribute__" = some (some (.builtin "BaseException.__getattribute__")))
    (gg : PySem.W.findIn K (.ref C) "__getattr__" = some none)
    (hd : PySem.W.hasDictIn K C = true)
    (ca : PySem.W.findIn K (.ref C) "__class__" = some (some (.builtin "object.__class__")))
    (cg : PySem.W.specialIn K (.builtin "object.__class__") "__get__" = some (some (.builtin "getset_descriptor.__get__")))
    (ct : PySem.W.takesIn K (.builtin "object.__class__") = some true)
    (mo : PySem.W.mroIn K C (.type "object") = some true)
    (rd : PySem.W.readsIn K C (.type "type") = true)
    (fc : PySem.W.findCls K (.ref C) (.type "type") "__name__" = some (.get (.builtin "getset_descriptor.__get__") (.builtin "type.__name__") (.ref C) (.type "type")))
    (nc : PySem.W.findIn K (.ref C) "called" = some none)
    (iC : PySem.W.findIn K (.ref C) "__init__" = some (some (.ref fI)))
    (tI : PySem.W.typeIn K (.ref fI) = some (.type "function"))
    (t1 : PySem.W.subIn K (.ref CT) (.type "BaseException") = some true)
    (t2 : PySem.W.hasDictIn K CT = true)
    (t3 : PySem.W.typeIn K (.ref CT) = some (.type "type"))
    (t4 : PySem.W.subIn K (.ref C) (.ref CT) = some tape)
    (u1 : PySem.W.subIn K (.ref CM) (.type "BaseException") = some true)
    (u2 : PySem.W.hasDictIn K CM = true)
    (u3 : PySem.W.typeIn K (.ref CM) = some (.type "type"))
    (u4 : PySem.W.subIn K (.ref C) (.ref CM) = some (!tape))
    (low : Txt.lower z = word)
    (sz : z.length ≤ 1000) : ErrF K x z word C CT CM fI tape := ⟨g, gT, gM, ⟨nm, q, N, bs, bm, sn, sub, ab, col, dd, k0, k1, k2, k3, k5, cls1, cls2⟩, ⟨o, tk, nm1, nm2⟩, sa, exC, tyC, kC, ga, gg, hd, ca, cg, ct, mo, rd, fc, nc, iC, tI, t1, t2, t3, t4, u1, u2, u3, u4, low, sz⟩
section
variable {P : Program} {w : World} {K : PySem.W.Frag} {mg : Str → Option Value} {base h : Heap} {x z word : Str} {C CT CM fI : Addr} {tape : Bool} {k : Nat} {fd : FuncData}
theorem ErrF.xf (F : ErrF K x z word C CT CM fI tape) : XfC K C := ⟨F.ga, F.gg, F.exC, F.hd⟩
theorem ErrF.err (F : ErrF K x z word C CT CM fI tape) (X : K.In h) (G : h.Ns mainGlobals mg) : Err K mg x C z word where
  g := PySem.W.mg_of X G F.g
  oex := ⟨F.cls, F.sa, F.exC, F.tyC, F.kC⟩
  cls := ⟨F.ga, F.gg, F.exC, F.hd, F.ca, F.cg, F.ct, F.mo⟩
  nmd := ⟨F.rd, F.fc, F.tyC, F.nm⟩
  nc := F.nc
  low := F.low
  sz := F.sz
theorem err_mk (F : ErrF K x z word C CT CM fI tape) (X : K.In h) (G : h.Ns mainGlobals mg) (ok : FnOk P w K mg base CX0 k fI fd ["self", "why"] (spInit K)) (b : Binds K fd ["self", "why"] []) : ErrK P w K mg base k x word tape :=
  ⟨C, CT, CM, fI, z, fd, F.err X G, F.iC, F.tI, ok, b, F.xf, PySem.W.mg_of X G F.gT, PySem.W.mg_of X G F.gM, PySem.W.exm_ref F.t1 F.t2 F.t3 F.t4, fun e => PySem.W.exm_ref F.u1 F.u2 F.u3 (by rw [F.u4, e]; rfl)⟩
end
/-- the end of a law whose def (and whose defs named in xs) hold lambdas -/
theorem walkT {l : PySem.W.OpenLaw} {n k : Nat} {q : Program} {loose : List Str} {XP : (Str → Option Value) → Heap → Prop} {YP : World → Heap → Prop} {d : DefRec} {K : Params → PySem.W.Frag} {CX : World → CXT} {x : Str}
    (hn : l.most = some n) (hn2 : n ≤ sizeLine) (hdf : d.params.defaults = []) (hr : Room k callerA) (hY : ∀ (w : World) (h : Heap), YP w h → (K w.params).In h)
    (F : ∀ (w : World) (mg : Str → Option Value) (fa : Addr) (h : Heap), (K w.params).In h → h.Ns mainGlobals mg → mg d.name = some (.ref fa) →
      (∀ (y : Str) (e : DefRec) (c t : Addr), (recsOf q).find? (fun r => r.name == y) = some e → PySem.W.tabIn (K w.params) y = some (c, t) → PySem.W.CodeHd h c t ∧ h.get? t = some { cls := .none, data := .fields #[] }) → LawAtS l w (K w.params) (CX w) k n x mg fa h)
    (hCX : ∀ (w : World) (H : Hp) (s : Shared) (e : Value) (s' : Shared), CX w [] H s (fun _ _ _ => False) e s' → False) :
    PySem.W.WalkO q loose XP YP l.row.toRowW d [] (fun f vs => PySem.call f vs) := by
  refine Att.attach_callB hn hdf fun w s₀ s₁ mg mb fa o pm cd doc a vs ns G Y ho hd hcd hmg hobj hints hlen hbits hg => ?_
  have KX := hY w _ Y
  obtain ⟨fd, cs, sp, hT, nT, C, hb, hsp, hF⟩ := F w mg fa _ KX G.T.g hmg fun y e c t h1 h2 => PySem.W.tab_of G.T KX h1 h2
  exact law_callTs KX G.T.g G.T.b G.T.builtins G.T.nolimit hg hT nT C G.T.bmain hobj hints (Nat.le_trans hlen hn2) hr hF hb (fun H hH hS => hsp H a ns hlen hbits hH hS) fun H e s' => hCX w H s₁ e s'
end Rt

namespace Rt
open PySem PySem.Spec PyProof.Rows L2 LamX
/-! ### a function read off a class of the program and called: C.m(self, ..) -/
/-- m of the class that x names is the function at f -/
structure Off (K : PySem.W.Frag) (mg : Str → Option Value) (x m : Str) (f : Addr) : Prop where
  ex : ∃ C : Addr, mg x = some (.ref C) ∧ PySem.W.specialIn K (.ref C) "__getattribute__" = some (some (.builtin "type.__getattribute__")) ∧ PySem.W.readsIn K C (.type "type") = true ∧ PySem.W.findCls K (.ref C) (.type "type") m = some (.val (.ref f))
section
variable {X : Cx} {x m : Str} {f : Addr} {fd : FuncData} {ps : List Str} {p1 p2 pos : Pos} {e : Expr} {es : List Expr} {t : TA} {k : Nat} {sp : Sp} {pl : Sem Bool}
theorem pe_off (O : Off X.K X.mg x m f) (F : FnOk X.prog X.w X.K X.mg X.base CX0 k f fd ps sp) (hr : Room k X.A) (hg : Gl X x) (hk : PySem.W.keepIn X.K (.ref f) = true) (hb : Binds X.K fd ps []) (ha : PA X (e :: es) t)
    (hc : eval (.Call (.Attribute (.Name x p1) m p2) (e :: es) [] pos) X.env = (do
      let ov ← eval (.Name x p1) X.env
      standAt p2.atName
      let (f, first) ← holding [ov] (getMethod ov m pl)
      callWith pos f first (backTo pos (starEach (e :: es) X.env)) (backToKw pos (keywordEach [] X.env))) := by rfl)
    (hdb : (x == ("__debug__" : Str)) = false := by decide) (he : starEach (e :: es) X.env = (false, eval e X.env) :: starEach es X.env := by rfl) (hpl : (backTo pos (starEach es X.env)).any (·.1) = false := by rfl) :
    PE X (.Call (.Attribute (.Name x p1) m p2) (e :: es) [] pos) (tCall sp [] E0 t) := by
  obtain ⟨C, hm, sG, rd, fc⟩ := O.ex
  refine ⟨fun pins s σ H Q I h => ?_⟩
  refine PySem.W.methodCall_KW (ld_glob I hg hm ?_ hdb) hc
  refine PySem.W.method_cls I.kIn sG (PySem.W.cls_value I.kIn rd fc rfl ?_)
  refine PySem.W.callWith_K (h₀ := X.base) I.ok.mod.kin hk (thn (ha.run pos pins _ σ H _ (I.tok _) h) fun us s1 ⟨vs, H1, I1, r, q⟩ => ⟨I1.kIn, ?_⟩) he hpl
  exact run_fn F hr hb .nil pass0 I1 r q
end
/-! ### BadBytes: an error with its place -/
/-- BadBytes.__init__ -/
def spInitAt (K : PySem.W.Frag) : Sp := fun vs H Q _ => ∃ (a C : Addr) (n : Int) (z : Str), vs = [.ref a, .int n] ∧ n.natAbs < 10 ^ 20 ∧ OexC K C ∧ ClsE K C ∧ Nmd K C z ∧ PySem.W.findIn K (.ref C) "called" = some none ∧ PySem.W.findIn K (.ref C) "at" = some none ∧ z.length ≤ 1000 ∧ H a = some (exo a C none) ∧
  ∀ dx, H dx = none → dx ≠ a → Q .non (upd (upd (upd H dx (exd dx [("called", .str (Txt.lower z))])) a (exo a C (some dx))) dx (exd dx [("at", .int n), ("called", .str (Txt.lower z))]))
/-- BadBytes in flight, its place n -/
structure RaisedA (K : PySem.W.Frag) (mg : Str → Option Value) (x word : Str) (n : Int) (H : Hp) (cls : Value) (d : Option Addr) (H' : Hp) : Prop where
  ex : ∃ (C dd : Addr), mg x = some (.ref C) ∧ cls = .ref C ∧ d = some dd ∧ H dd = none ∧ H' = upd H dd (.xd [("at", .int n), ("called", .str word)]) ∧ XfC K C ∧ PySem.W.findIn K (.ref C) "called" = some none ∧ PySem.W.findIn K (.ref C) "at" = some none
structure ErrA (P : Program) (w : World) (K : PySem.W.Frag) (mg : Str → Option Value) (base : Heap) (k : Nat) (x word : Str) : Prop where
  ex : ∃ (C fI : Addr) (z : Str) (fd : FuncData), Err K mg x C z word ∧ PySem.W.findIn K (.ref C) "__init__" = some (some (.ref fI)) ∧ PySem.W.typeIn K (.ref fI) = some (.type "function") ∧
    FnOk P w K mg base CX0 k fI fd ["self", "at"] (spInitAt K) ∧ Binds K fd ["self", "at"] [] ∧ XfC K C ∧ PySem.W.findIn K (.ref C) "at" = some none
def tRaiseA (K : PySem.W.Frag) (mg : Str → Option Value) (x word : Str) (W : WX) (ta : TA) : TS := fun _ σ H => ta σ H fun vs H1 => ∃ n : Int, vs = [.int n] ∧ n.natAbs < 10 ^ 20 ∧ ∀ cls d H', RaisedA K mg x word n H1 cls d H' → W cls d σ H'
section
variable {X : Cx} {x word : Str} {k : Nat} {e : Expr} {es : List Expr} {ta : TA} {W : WX} {p pos pos2 : Pos}
theorem ps_raiseA (hc : X.calm = true) (T : ErrA X.prog X.w X.K X.mg X.base k x word) (hr : Room (k + 1) X.A) (tk : Takes X W) (hg : Gl X x) (ha : PA X (e :: es) ta) (hdb : (x == ("__debug__" : Str)) = false := by decide)
    (he : starEach (e :: es) X.env = (false, eval e X.env) :: starEach es X.env := by rfl) (hpl : (backTo pos (starEach es X.env)).any (·.1) = false := by rfl) :
    PS X (.Raise (some (.Call (.Name x p) (e :: es) [] pos)) none pos2) (tRaiseA X.K X.mg x word W ta) := by
  obtain ⟨C, fI, z, fd, R, iC, tI, F1, hb, xf, na⟩ := T.ex
  have mk := pmk_oex (X := X) (CX := CX0) (p := p) (pos := pos) R.oex iC tI F1 hr hb .nil pass0 hg R.g (pa_up ha) hdb he hpl
  have rs := ps_raise (pos := pos2) hc tk mk
  refine ⟨fun pins s σ H D I h => rs.run pins s σ H D I ?_⟩
  have imp : ∀ (vs : List V) (H1 : Hp), (∃ n : Int, vs = [.int n] ∧ n.natAbs < 10 ^ 20 ∧ ∀ cls d H', RaisedA X.K X.mg x word n H1 cls d H' → W cls d σ H') →
      vs.length ≤ 1000 ∧ ∀ a, H1 a = none → spInitAt X.K (.ref a :: (vs ++ [])) (upd H1 a (exo a C none))
        (fun v H2 => v = .non ∧ ∃ (d : Addr) (fs : List (Str × V)), H2 a = some (exo a C (some d)) ∧ H2 d = some (exd d fs) ∧ H1 d = none ∧ W (.ref C) (some d) σ (upd (del H2 a) d (.xd fs))) (fun _ _ _ => False) := by
    rintro vs H1 ⟨n, rfl, hn, q⟩
    refine ⟨(by show 1 ≤ 1000; decide), fun a ha => ⟨a, C, n, z, rfl, hn, R.oex, R.cls, R.nmd, R.nc, na, R.sz, upd_same, fun dx hdx nda => ⟨rfl, dx, [("at", .int n), ("called", .str (Txt.lower z))], ?_, upd_same, ?_, ?_⟩⟩⟩
    · rw [upd_ne nda.symm, upd_same]
    · rw [upd_ne nda] at hdx
      exact hdx
    · rw [upd_ne nda] at hdx
      refine q _ _ _ ⟨C, dx, R.g, rfl, rfl, hdx, ?_, xf, R.nc, na⟩
      funext b
      by_cases e1 : b = dx
      · rw [e1, upd_same, upd_same, R.low]
      · rw [upd_ne e1, upd_ne e1]
        by_cases e2 : b = a
        · rw [e2, del_same, ha]
        · rw [del_ne e2, upd_ne e1, upd_ne e2, upd_ne e1, upd_ne e2]
  exact ⟨_, h, imp⟩
end
/-- a def that may let an error out, called with fewer values than it has parameters -/
structure DefXd (P : Program) (w : World) (K : PySem.W.Frag) (mg : Str → Option Value) (base : Heap) (x : Str) (k : Nat) (sp : Sp) (dvs : List V) : Prop where
  ex : ∃ (f : Addr) (fd : FuncData) (ps : List Str) (ds : List Value), mg x = some (.ref f) ∧ FnOk P w K mg base (L2.CX P w) k f fd ps sp ∧ PySem.W.keepIn K (.ref f) = true ∧ Binds K fd ps ds ∧ Vals dvs ds
section
variable {X : Cx} {x : Str} {p pos : Pos} {e : Expr} {es : List Expr} {t : TA} {k : Nat} {sp : Sp} {W : WX} {dvs : List V}
theorem pe_dxd (D : DefXd X.prog X.w X.K X.mg X.base x k sp dvs) (hr : Room k X.A) (hg : Gl X x) (tk : Takes X W) (ha : PA X (e :: es) t) (hdb : (x == ("__debug__" : Str)) = false := by decide)
    (he : starEach (e :: es) X.env = (false, eval e X.env) :: starEach es X.env := by rfl) (hpl : (backTo pos (starEach es X.env)).any (·.1) = false := by rfl) :
    PE X (.Call (.Name x p) (e :: es) [] pos) (tCallSD sp dvs (WE W) t) := by
  obtain ⟨f, fd, ps, ds, h1, h2, h3, h4, h5⟩ := D.ex
  exact pe_callSD h2 hr hg h1 h3 h4 h5 (fun σ => passAt tk σ) ha hdb he hpl
end
/-- a reading with room -/
def tUpE (te : TE) : TE := fun σ H Q => ∃ R : V → Hp → Prop, te σ H R ∧ ∀ v H1, R v H1 → Q v H1
theorem pe_up {X : Cx} {e : Expr} {te : TE} (h : PE X e te) : PE X e (tUpE te) := ⟨fun pins s σ H Q I ⟨R, h', imp⟩ => thn (h.run pins s σ H R I h') fun u s1 ⟨v, H1, I1, r, q⟩ => ⟨v, H1, I1, r, imp v H1 q⟩⟩
/-! ### lists of numbers as data -/
theorem dp_nums {K : PySem.W.Frag} {H : Hp} : ∀ l : List Nat, DpAll K H (nums l) (l.map fun (n : Nat) => PyData.int (n : Int))
  | [] => .nil
  | n :: l => .cons (.int _) (dp_nums l)
theorem depth_ints : ∀ l : List Nat, PyData.depthAll (l.map fun (n : Nat) => PyData.int (n : Int)) = 0
  | [] => rfl
  | n :: l => by
    show max 0 (PyData.depthAll (l.map fun (n : Nat) => PyData.int (n : Int))) = 0
    rw [depth_ints l]
    rfl
theorem sm_ints : ∀ l : List Nat, smAll (l.map fun (n : Nat) => PyData.int (n : Int))
  | [] => True.intro
  | n :: l => ⟨True.intro, sm_ints l⟩
def numsD (l : List Nat) : PyData := .list (l.map fun (n : Nat) => PyData.int (n : Int))
theorem numsD_shaped (l : List Nat) : SeqAt.shaped (numsD l) = true := by
  have h := PySem.W.ke_shaped_ints (l.map fun (n : Nat) => (n : Int))
  rw [List.map_map] at h
  exact h
theorem numsD_eq (l : List Nat) : PyData.eqv (numsD l) (numsD l) = true := SeqAt.eqv_refl _ (SeqAt.canLay_of_shaped (numsD_shaped l))
/-- what is settled, without the tables -/
def clean (H0 : Hp) : Hp := fun b => match H0 b with
  | some (.tbl _) => none
  | o => o
theorem clean_at {H0 : Hp} {p : Addr} {o : HO} (h : H0 p = some o) (n : ∀ ps, o ≠ .tbl ps) : clean H0 p = some o := by
  unfold clean
  rw [h]
  split
  · rename_i ps e
    exact absurd (Option.some.inj e) (n ps)
  · rfl
theorem clean_le {H0 : Hp} {p : Addr} {o : HO} (h : clean H0 p = some o) : H0 p = some o := by
  unfold clean at h
  split at h
  · cases h
  · exact h
theorem clean_no (H0 : Hp) : NoTab (clean H0) := fun b ps z => by
  have h := clean_le z
  unfold clean at z
  rw [h] at z
  cases z
theorem clean_ex {H0 H : Hp} (e : Ex H0 H) : Ex (clean H0) H := fun b o h => e b o (clean_le h)
theorem clean_dr {H0 H : Hp} {d : Addr} (x : Dr H0 H d) : Dr (clean H0) H d := by
  obtain ⟨⟨a, ns, i, j, k, l, h1, h2, h3⟩, n⟩ := x
  refine ⟨⟨a, ns, i, j, k, l, h1, clean_at h2 (fun ps z => nomatch z), h3⟩, ?_⟩
  cases e : clean H0 d with
  | none => rfl
  | some o =>
    have := clean_le e
    rw [n] at this
    cases this
/-- all that is read off an error's class, whatever else it is under -/
structure ErrG (K : PySem.W.Frag) (x z word : Str) (C fI : Addr) : Prop where
  g : PySem.W.nsIn K mainGlobals x = some (some (.ref C))
  cls : ∃ nm q N bs bm sn sub ab col dd k0 k1 k2 k3 k5, K.lookup C = some (excClassObj nm q C N bs bm true sn sub ab col dd k0 k1 k2 k3 k5 "ValueError.__new__") ∧ PySem.HandSPX.refsVE bm = true
  nm : ∃ o tk, K.lookup C = some o ∧ (o.slots[2]?).join = some (.str z tk)
  sa : PySem.W.findIn K (.ref C) "__setattr__" = some (some (.builtin "object.__setattr__"))
  exC : PySem.W.subIn K (.ref C) (.type "BaseException") = some true
  tyC : PySem.W.typeIn K (.ref C) = some (.type "type")
  kC : PySem.W.keepIn K (.ref C) = true
  ga : PySem.W.findIn K (.ref C) "__getattribute__" = some (some (.builtin "BaseException.__getattribute__"))
  gg : PySem.W.findIn K (.ref C) "__getattr__" = some none
  hd : PySem.W.hasDictIn K C = true
  ca : PySem.W.findIn K (.ref C) "__class__" = some (some (.builtin "object.__class__"))
  cg : PySem.W.specialIn K (.builtin "object.__class__") "__get__" = some (some (.builtin "getset_descriptor.__get__"))
  ct : PySem.W.takesIn K (.builtin "object.__class__") = some true
  mo : PySem.W.mroIn K C (.type "object") = some true
  rd : PySem.W.readsIn K C (.type "type") = true
  fc : PySem.W.findCls K (.ref C) (.type "type") "__name__" = some (.get (.builtin "getset_descriptor.__get__") (.builtin "type.__name__") (.ref C) (.type "type"))
  nc : PySem.W.findIn K (.ref C) "called" = some none
  iC : PySem.W.findIn K (.ref C) "__init__" = some (some (.ref fI))
  tI : PySem.W.typeIn K (.ref fI) = some (.type "function")
  se : PySem.W.subIn K (.ref C) (.ref C) = some true
  low : Txt.lower z = word
  sz : z.length ≤ 1000
theorem errG_of {K : PySem.W.Frag} {x z word : Str} {C fI : Addr} {nm q : Str} {N : Addr} {bs bm : List Value} {sn : List Str} {sub : List Value} {ab : Bool} {col : Option Bool} {dd : Option Addr} {k0 k1 k2 k3 k5 : Option Value} {o : Obj} {tk : Tok}
    (g : PySem.W.nsIn K mainGlobals x = some (some (.ref C)))
    (cls1 : K.lookup C = some (excClassObj nm q C N bs bm true sn sub ab col dd k0 k1 k2 k3 k5 "ValueError.__new__")) (cls2 : PySem.HandSPX.refsVE bm = true)
    (nm1 : K.lookup C = some o) (nm2 : (o.slots[2]?).join = some (.str z tk))
    (sa : PySem.W.findIn K (.ref C) "__setattr__" = some (some (.builtin "object.__setattr__")))
    (exC : PySem.W.subIn K (.ref C) (.type "BaseException") = some true)
    (tyC : PySem.W.typeIn K (.ref C) = some (.type "type"))
    (kC : PySem.W.keepIn K (.ref C) = true)
    (ga : PySem.W.findIn K (.ref C) "__getattribute__" = some (some (.builtin "BaseException.__getattribute__")))
    (gg : PySem.W.findIn K (.ref C) "__getattr__" = some none)
    (hd : PySem.W.hasDictIn K C = true)
    (ca : PySem.W.findIn K (.ref C) "__class__" = some (some (.builtin "object.__class__")))
    (cg : PySem.W.specialIn K (.builtin "object.__class__") "__get__" = some (some (.builtin "getset_descriptor.__get__")))
    (ct : PySem.W.takesIn K (.builtin "object.__class__") = some true)
    (mo : PySem.W.mroIn K C (.type "object") = some true)
    (rd : PySem.W.readsIn K C (.type "type") = true)
    (fc : PySem.W.findCls K (.ref C) (.type "type") "__name__" = some (.get (.builtin "getset_descriptor.__get__") (.builtin "type.__name__") (.ref C) (.type "type")))
    (nc : PySem.W.findIn K (.ref C) "called" = some none)
    (iC : PySem.W.findIn K (.ref C) "__init__" = some (some (.ref fI)))
    (tI : PySem.W.typeIn K (.ref fI) = some (.type "function"))
    (se : PySem.W.subIn K (.ref C) (.ref C) = some true)
    (low : Txt.lower z = word)
    (sz : z.length ≤ 1000) : ErrG K x z word C fI := ⟨g, ⟨nm, q, N, bs, bm, sn, sub, ab, col, dd, k0, k1, k2, k3, k5, cls1, cls2⟩, ⟨o, tk, nm1, nm2⟩, sa, exC, tyC, kC, ga, gg, hd, ca, cg, ct, mo, rd, fc, nc, iC, tI, se, low, sz⟩
section
variable {P : Program} {w : World} {K : PySem.W.Frag} {mg : Str → Option Value} {base h : Heap} {x z word : Str} {C fI CT : Addr} {k : Nat} {fd : FuncData}
theorem ErrG.xf (F : ErrG K x z word C fI) : XfC K C := ⟨F.ga, F.gg, F.exC, F.hd⟩
theorem ErrG.err (F : ErrG K x z word C fI) (X : K.In h) (G : h.Ns mainGlobals mg) : Err K mg x C z word where
  g := PySem.W.mg_of X G F.g
  oex := ⟨F.cls, F.sa, F.exC, F.tyC, F.kC⟩
  cls := ⟨F.ga, F.gg, F.exC, F.hd, F.ca, F.cg, F.ct, F.mo⟩
  nmd := ⟨F.rd, F.fc, F.tyC, F.nm⟩
  nc := F.nc
  low := F.low
  sz := F.sz
theorem ErrG.self (F : ErrG K x z word C fI) : PySem.W.exmOne K (.ref C) (.ref C) = some true := PySem.W.exm_ref F.exC F.hd F.tyC F.se
theorem errA_mk (F : ErrG K x z word C fI) (na : PySem.W.findIn K (.ref C) "at" = some none) (X : K.In h) (G : h.Ns mainGlobals mg) (ok : FnOk P w K mg base CX0 k fI fd ["self", "at"] (spInitAt K)) (b : Binds K fd ["self", "at"] []) : ErrA P w K mg base k x word :=
  ⟨C, fI, z, fd, F.err X G, F.iC, F.tI, ok, b, F.xf, na⟩
end
end Rt

namespace Rt
open PySem PySem.Spec PyProof.Rows L2 RZ
/-! ### events: what is good -/
def withinV (v : V) (lo hi : Int) : Bool := match v with
  | .int z => decide (lo ≤ z) && decide (z ≤ hi)
  | _ => false
def signsS : Str := "abcdefghijklmnopqrstuvwxyz0123456789 "
def textOk (v : V) : Bool := match v with
  | .str s => decide (s.length ≤ 12) && s.cps.toList.all (fun c => decide (c ∈ signsS.cps.toList))
  | _ => false
def wordB (w : Str) : Option (List (Int × Int)) :=
  if w = "on" then some [(0, 15), (0, 127), (1, 127)] else if w = "off" then some [(0, 15), (0, 127), (0, 127)] else if w = "knob" then some [(0, 15), (0, 127), (0, 127)] else if w = "voice" then some [(0, 15), (0, 127)] else none
def withinAll : List V → List (Int × Int) → Bool
  | [], [] => true
  | v :: vs, b :: bs => withinV v b.1 b.2 && withinAll vs bs
  | _, _ => false
def markOk : List V → Bool
  | [x] => textOk x
  | _ => false
def wordOk (o : Option (List (Int × Int))) (r : List V) : Bool := match o with
  | some bs => withinAll r bs
  | none => false
def thingOk : List V → Bool
  | .str w :: r => if w = "mark" then markOk r else wordOk (wordB w) r
  | _ => false
theorem thing_mark (r : List V) : thingOk (.str "mark" :: r) = markOk r := by
  show (if ("mark" : Str) = "mark" then markOk r else wordOk (wordB "mark") r) = _
  rw [if_pos rfl]
theorem thing_word {z : Str} (h : ¬ z = "mark") (r : List V) : thingOk (.str z :: r) = wordOk (wordB z) r := by
  show (if z = "mark" then markOk r else wordOk (wordB z) r) = _
  rw [if_neg h]
theorem wordB_len {z : Str} {bs : List (Int × Int)} (hb : wordB z = some bs) : bs.length ≤ 10 := by
  unfold wordB at hb
  split at hb
  · cases hb; decide
  split at hb
  · cases hb; decide
  split at hb
  · cases hb; decide
  split at hb
  · cases hb; decide
  · cases hb
def isEv : List V → Bool
  | t :: r => withinV t 0 999999 && thingOk r
  | [] => false
/-- a number or a text of moderate size -/
def Scal (v : V) : Prop := (∃ z, v = .int z) ∨ ∃ s : Str, v = .str s ∧ s.length ≤ 1000
theorem withinAll_len : ∀ (vs : List V) (bs : List (Int × Int)), withinAll vs bs = true → vs.length = bs.length
  | [], [], _ => rfl
  | v :: vs, b :: bs, h => by
    have h' : (withinV v b.1 b.2 && withinAll vs bs) = true := h
    rw [Bool.and_eq_true] at h'
    rw [List.length_cons, List.length_cons, withinAll_len vs bs h'.2]
  | [], b :: bs, h => nomatch h
  | v :: vs, [], h => nomatch h
theorem withinAll_zip : ∀ (vs : List V) (bs : List (Int × Int)), vs.length = bs.length → withinAll vs bs = (vs.zip bs).all fun p => withinV p.1 p.2.1 p.2.2
  | [], [], _ => rfl
  | v :: vs, b :: bs, h => by
    show (withinV v b.1 b.2 && withinAll vs bs) = (withinV v b.1 b.2 && (vs.zip bs).all _)
    rw [withinAll_zip vs bs (by simpa using h)]
  | [], b :: bs, h => by simp at h
  | v :: vs, [], h => by simp at h
/-! ### `in` of a written dict with text keys, for numbers too -/
theorem mapOfM_K {prog : Program} {w : World} {K : PySem.W.Frag} {h : Heap} {a : Addr} {es : Array DictEntry} {n : Nat} (X : K.In h) (hl : K.lookup a = some ⟨.type "dict", none, .dict es n, #[]⟩) (hk : PySem.W.KeysLit w.params es.toList) :
    h.MapOf (mixKind prog w) a (fun k => findBy keyIs es k) :=
  ⟨_, es, n, X _ _ hl, ⟨rfl, rfl, rfl⟩, rfl, fun e he => by
    obtain ⟨x, t, e1, e2⟩ := hk.all e (Array.mem_toList_iff.mpr he)
    exact ⟨.inr x, by rw [e1]; exact keyIs_str x t, e2⟩, fun _ => rfl⟩
theorem findM_int {P : Params} {es : Array DictEntry} (hk : PySem.W.KeysLit P es.toList) (i : Int) : findBy keyIs es (.inl i) = none := by
  obtain ⟨l⟩ := es
  unfold findBy
  rw [List.find?_toArray]
  have : l.find? (fun d => keyIs (.inl i) d.key) = none := List.find?_eq_none.mpr fun e he => by
    obtain ⟨x, t, e1, _⟩ := hk.all e he
    rw [e1]
    simp [keyIs, Value.isInt]
  rw [this]
  rfl
theorem findM_str {es : Array DictEntry} (x : Str) : findBy keyIs es (.inr x) = findBy Value.isStrOf es x := rfl
def rInM (K : PySem.W.Frag) (w : World) : R2 := fun x y H Q => ∃ d es n, y = .ref d ∧ K.lookup d = some ⟨.type "dict", none, .dict es n, #[]⟩ ∧ PySem.W.KeysLit w.params es.toList ∧ (d == sysModules) = false ∧
  ((∃ i, x = .int i ∧ Q (.bl false) H) ∨ ∃ z r, x = .str z ∧ PySem.W.nsIn K d z = some r ∧ Q (.bl r.isSome) H)
theorem op_inM {X : Cx} : OpR X (compareOp .In) (rInM X.K X.w) := by
  intro pins s σ H x y v u Q I rx ry h
  obtain ⟨d, es, n, rfl, hl, hk, low, h⟩ := h
  cases ry
  have hm := mapOfM_K (prog := X.prog) (w := X.w) I.kIn hl hk
  rcases h with ⟨i, rfl, q⟩ | ⟨z, r, rfl, e, q⟩
  · obtain ⟨t, rfl⟩ := rx
    refine wpAny_in_of (knd := mixKind X.prog X.w) (k := .inl i) (keyIs_int i t) low hm ?_
    rw [findM_int hk]
    exact ⟨.bl false, H, I.tok _, rfl, q⟩
  · obtain ⟨t, rfl⟩ := rx
    refine wpAny_in_of (knd := mixKind X.prog X.w) (k := .inr z) (keyIs_str z t) low hm ?_
    rw [findM_str, PySem.W.find_K hl e]
    exact ⟨.bl r.isSome, H, I.tok _, rfl, q⟩
/-! ### the program's table of bounds -/
/-- at v: a written tuple of pairs -/
def PrsK (K : PySem.W.Frag) (v : Addr) (bs : List (Int × Int)) : Prop := ∃ ps : List Addr, (∀ H, SqT K H v (ps.map V.ref)) ∧ ps.length = bs.length ∧ ∀ (i : Nat) (p : Addr) (b : Int × Int), ps[i]? = some p → bs[i]? = some b → ∀ H, SqT K H p [.int b.1, .int b.2]
structure BoundsK (K : PySem.W.Frag) (w : World) (d : Addr) : Prop where
  at_ : ∃ es n, K.lookup d = some ⟨.type "dict", none, .dict es n, #[]⟩ ∧ PySem.W.KeysLit w.params es.toList ∧ (d == sysModules) = false
  no : ∀ z, wordB z = none → PySem.W.nsIn K d z = some none
  yes : ∀ z bs, wordB z = some bs → ∃ v, PySem.W.nsIn K d z = some (some (.ref v)) ∧ PrsK K v bs
theorem sqt_K {K : PySem.W.Frag} {v : Addr} {od : Option Addr} {xs : List V} {its : Array Value} {n : Nat} {sl : Array (Option Value)} (l : K.lookup v = some ⟨.type "tuple", od, .seq its n, sl⟩) (hz : its.size ≤ 1000) (r : Vals xs its.toList) (H : Hp) : SqT K H v xs :=
  .inr ⟨_, its, n, l, rfl, rfl, mem_sz (Nat.le_trans hz (by decide)), r⟩
theorem pr_K {K : PySem.W.Frag} {v : Addr} {od : Option Addr} {a b : Int} {t u : Tok} {n : Nat} {sl : Array (Option Value)} (l : K.lookup v = some ⟨.type "tuple", od, .seq #[.int a t, .int b u] n, sl⟩) (H : Hp) : SqT K H v [.int a, .int b] :=
  sqt_K (xs := [.int a, .int b]) l (by show 2 ≤ 1000; decide) (.cons ⟨_, rfl⟩ (.cons ⟨_, rfl⟩ .nil)) H
theorem prs3_K {K : PySem.W.Frag} {v p1 p2 p3 : Addr} {od : Option Addr} {n : Nat} {sl : Array (Option Value)} {b1 b2 b3 : Int × Int} (l : K.lookup v = some ⟨.type "tuple", od, .seq #[.ref p1, .ref p2, .ref p3] n, sl⟩) (h1 : ∀ H, SqT K H p1 [.int b1.1, .int b1.2]) (h2 : ∀ H, SqT K H p2 [.int b2.1, .int b2.2]) (h3 : ∀ H, SqT K H p3 [.int b3.1, .int b3.2]) :
    PrsK K v [b1, b2, b3] := ⟨[p1, p2, p3], fun H => sqt_K (xs := [V.ref p1, V.ref p2, V.ref p3]) l (by show 3 ≤ 1000; decide) (.cons rfl (.cons rfl (.cons rfl .nil))) H, rfl, fun i p b hp hb => by
      match i, hp, hb with
      | 0, hp, hb => cases hp; cases hb; exact h1
      | 1, hp, hb => cases hp; cases hb; exact h2
      | 2, hp, hb => cases hp; cases hb; exact h3
      | i + 3, hp, hb => simp at hp⟩
theorem prs2_K {K : PySem.W.Frag} {v p1 p2 : Addr} {od : Option Addr} {n : Nat} {sl : Array (Option Value)} {b1 b2 : Int × Int} (l : K.lookup v = some ⟨.type "tuple", od, .seq #[.ref p1, .ref p2] n, sl⟩) (h1 : ∀ H, SqT K H p1 [.int b1.1, .int b1.2]) (h2 : ∀ H, SqT K H p2 [.int b2.1, .int b2.2]) :
    PrsK K v [b1, b2] := ⟨[p1, p2], fun H => sqt_K (xs := [V.ref p1, V.ref p2]) l (by show 2 ≤ 1000; decide) (.cons rfl (.cons rfl .nil)) H, rfl, fun i p b hp hb => by
      match i, hp, hb with
      | 0, hp, hb => cases hp; cases hb; exact h1
      | 1, hp, hb => cases hp; cases hb; exact h2
      | i + 2, hp, hb => simp at hp⟩
theorem bounds_mk {K : PySem.W.Frag} {w : World} {d : Addr} {n : Nat} {h1 h2 h3 h4 : Int} {t1 t2 t3 t4 : Tok} {v1 v2 v3 v4 : Addr}
    (l : K.lookup d = some ⟨.type "dict", none, .dict #[⟨h1, .str "on" t1, .ref v1⟩, ⟨h2, .str "off" t2, .ref v2⟩, ⟨h3, .str "knob" t3, .ref v3⟩, ⟨h4, .str "voice" t4, .ref v4⟩] n, #[]⟩)
    (k1 : h1 = PyData.keyHash w.params "on") (k2 : h2 = PyData.keyHash w.params "off") (k3 : h3 = PyData.keyHash w.params "knob") (k4 : h4 = PyData.keyHash w.params "voice") (low : (d == sysModules) = false)
    (n1 : PySem.W.nsIn K d "on" = some (some (.ref v1))) (n2 : PySem.W.nsIn K d "off" = some (some (.ref v2))) (n3 : PySem.W.nsIn K d "knob" = some (some (.ref v3))) (n4 : PySem.W.nsIn K d "voice" = some (some (.ref v4)))
    (p1 : PrsK K v1 [(0, 15), (0, 127), (1, 127)]) (p2 : PrsK K v2 [(0, 15), (0, 127), (0, 127)]) (p3 : PrsK K v3 [(0, 15), (0, 127), (0, 127)]) (p4 : PrsK K v4 [(0, 15), (0, 127)]) : BoundsK K w d where
  at_ := ⟨_, n, l, ⟨⟨_, _, rfl, k1⟩, ⟨_, _, rfl, k2⟩, ⟨_, _, rfl, k3⟩, ⟨_, _, rfl, k4⟩, True.intro⟩, low⟩
  no := fun z hz => by
    unfold wordB at hz
    by_cases e1 : z = "on"
    · rw [if_pos e1] at hz; cases hz
    rw [if_neg e1] at hz
    by_cases e2 : z = "off"
    · rw [if_pos e2] at hz; cases hz
    rw [if_neg e2] at hz
    by_cases e3 : z = "knob"
    · rw [if_pos e3] at hz; cases hz
    rw [if_neg e3] at hz
    by_cases e4 : z = "voice"
    · rw [if_pos e4] at hz; cases hz
    have ne : ∀ (x : Str) (t : Tok), z ≠ x → (Value.str x t).isStr z = false := fun x t h => by
      rw [PySem.W.isStr_of]
      cases e : Value.isStrOf z (.str x t) with
      | false => rfl
      | true =>
        obtain ⟨t', e'⟩ := Value.isStrOf_shape e
        injection e' with e1 _
        exact absurd e1.symm h
    unfold PySem.W.nsIn
    rw [l]
    simp only [List.find?_cons, ne _ _ e1, ne _ _ e2, ne _ _ e3, ne _ _ e4, List.find?_nil]
    rfl
  yes := fun z bs hz => by
    unfold wordB at hz
    by_cases e1 : z = "on"
    · rw [if_pos e1] at hz; cases hz; rw [e1]; exact ⟨v1, n1, p1⟩
    rw [if_neg e1] at hz
    by_cases e2 : z = "off"
    · rw [if_pos e2] at hz; cases hz; rw [e2]; exact ⟨v2, n2, p2⟩
    rw [if_neg e2] at hz
    by_cases e3 : z = "knob"
    · rw [if_pos e3] at hz; cases hz; rw [e3]; exact ⟨v3, n3, p3⟩
    rw [if_neg e3] at hz
    by_cases e4 : z = "voice"
    · rw [if_pos e4] at hz; cases hz; rw [e4]; exact ⟨v4, n4, p4⟩
    rw [if_neg e4] at hz
    cases hz
/-! ### comprehensions whose items are values and whose items' making changes nothing settled -/
/-- behind i items: the list at D holds f 0 .. f (i - 1) -/
def LcP (D : Addr) (H0 H : Hp) (f : Nat → V) (i : Nat) (H' : Hp) : Prop := H' D = some (.lst ((List.range i).map f)) ∧ Go (fun _ => False) H0 H H0 H'
theorem LcP.start {D : Addr} {H0 H H1 : Hp} {f : Nat → V} (g : Go (fun _ => False) H0 H H0 H1) (h : H1 D = none) : LcP D H0 H f 0 (upd H1 D (.lst [])) := ⟨upd_same, g.lay _ h⟩
theorem LcP.step {D : Addr} {H0 H H1 H' H2 : Hp} {f : Nat → V} {i : Nat} {y : V} (g1 : Go (fun _ => False) H0 H H0 H1) (hD : H1 D = none) (p : LcP D H0 H f i H') (hi : i ≤ 100000) (g : Go (fun _ => False) H0 H' H0 H2) (e : y = f i) :
    ∃ acc, H2 D = some (.lst acc) ∧ acc.length < sizeLine ∧ LcP D H0 H f (i + 1) (upd H2 D (.lst (acc ++ [y]))) := by
  refine ⟨_, g.keep _ _ p.1 (fun z => z), mem_lt (by rw [List.length_map, List.length_range]; omega), ?_, (p.2.then g).turn _ (g1.fresh hD) (g1.fresh0 hD)⟩
  rw [upd_same, List.range_succ, List.map_append, e]
  rfl
theorem map_range {α β : Type} (l : List α) (g : α → β) (f : Nat → β) (h : ∀ i a, l[i]? = some a → f i = g a) : (List.range l.length).map f = l.map g := by
  refine List.ext_getElem? fun i => ?_
  rw [List.getElem?_map, List.getElem?_map]
  by_cases hi : i < l.length
  · rw [List.getElem?_range hi, List.getElem?_eq_getElem hi]
    show some (f i) = some (g l[i])
    rw [h i _ (List.getElem?_eq_getElem hi)]
  · rw [List.getElem?_eq_none (l := l) (by omega), List.getElem?_eq_none (l := List.range l.length) (by rw [List.length_range]; omega)]
    rfl
/-- the signs of a text -/
theorem lc_str {x : Str} {g : TG} {tt : TT} {te : TE} {vs : List Nat} {σ : L2.St} {H1 : Hp} {D : Addr} {Qd : Hp → Prop} (Pv : Nat → Hp → Prop) (h0 : Pv 0 (upd H1 D (.lst [])))
    (hs : ∀ i c H, x.cps.toList[i]? = some c → Pv i H → g (.str ⟨#[c]⟩) (wipe σ vs) H fun σ2 H2 => wipe σ2 vs = wipe σ vs ∧ tt σ2 H2 fun b H3 =>
      if b = true then te σ2 H3 fun y H4 => ∃ acc, H4 D = some (.lst acc) ∧ acc.length < sizeLine ∧ Pv (i + 1) (upd H4 D (.lst (acc ++ [y]))) else Pv (i + 1) H3) (hd : ∀ H, Pv x.cps.toList.length H → Qd H) :
    ∃ W : Nat → Nat → Hp → Prop, (∃ m, W 0 m (upd H1 D (.lst []))) ∧ ∀ i m H, W i m H →
      ((Its x).stop i H ∧ Qd H) ∨ ((Its x).go i H ∧ ∃ Nx : Hp → Prop, (∀ H', Nx H' → ∃ m', m' < m ∧ W (i + 1) m' H') ∧ ∀ y H', (Its x).yld i H y H' → g y (wipe σ vs) H' fun σ2 H2 => wipe σ2 vs = wipe σ vs ∧ tt σ2 H2 fun b H3 =>
        if b = true then te σ2 H3 fun y H4 => ∃ acc, H4 D = some (.lst acc) ∧ acc.length < sizeLine ∧ Nx (upd H4 D (.lst (acc ++ [y]))) else Nx H3) := by
  refine ⟨fun i m H => m = x.cps.toList.length - i ∧ i ≤ x.cps.toList.length ∧ Pv i H, ⟨x.cps.toList.length, by simp, Nat.zero_le _, h0⟩, ?_⟩
  rintro i m H ⟨rfl, hi, p⟩
  have el : x.cps.toList.length = x.cps.size := Array.length_toList
  by_cases hlt : i < x.cps.toList.length
  · refine .inr ⟨(by show i < x.cps.size; omega), Pv (i + 1), fun H' p' => ⟨x.cps.toList.length - (i + 1), by omega, rfl, hlt, p'⟩, fun y H' hy => ?_⟩
    obtain ⟨rfl, c, hc, rfl⟩ := hy
    exact hs i c _ (by rw [Array.getElem?_toList]; exact hc) p
  · have e : i = x.cps.toList.length := by omega
    subst e
    exact .inl ⟨(by show x.cps.size ≤ _; omega), hd H p⟩
/-- zip of two tuples of like length -/
theorem lc_zipT {K : PySem.W.Frag} {a b : Addr} {xs ys : List V} {g : TG} {tt : TT} {te : TE} {vs : List Nat} {σ : L2.St} {H1 : Hp} {D : Addr} {Qd : Hp → Prop} (hl : xs.length = ys.length) (Pv : Nat → Hp → Prop) (h0 : Pv 0 (upd H1 D (.lst []))) (hq : ∀ i H, Pv i H → SqT K H a xs ∧ SqT K H b ys)
    (hs : ∀ (i : Nat) (x y : V) (T : Addr) (H : Hp), xs[i]? = some x → ys[i]? = some y → Pv i H → H T = none → g (.ref T) (wipe σ vs) (upd H T (.tup [x, y])) fun σ2 H2 => wipe σ2 vs = wipe σ vs ∧ tt σ2 H2 fun b H3 =>
      if b = true then te σ2 H3 fun y H4 => ∃ acc, H4 D = some (.lst acc) ∧ acc.length < sizeLine ∧ Pv (i + 1) (upd H4 D (.lst (acc ++ [y]))) else Pv (i + 1) H3) (hd : ∀ H, Pv xs.length H → Qd H) :
    ∃ W : Nat → Nat → Hp → Prop, (∃ m, W 0 m (upd H1 D (.lst []))) ∧ ∀ i m H, W i m H →
      ((ItzT K a b).stop i H ∧ Qd H) ∨ ((ItzT K a b).go i H ∧ ∃ Nx : Hp → Prop, (∀ H', Nx H' → ∃ m', m' < m ∧ W (i + 1) m' H') ∧ ∀ y H', (ItzT K a b).yld i H y H' → g y (wipe σ vs) H' fun σ2 H2 => wipe σ2 vs = wipe σ vs ∧ tt σ2 H2 fun b H3 =>
        if b = true then te σ2 H3 fun y H4 => ∃ acc, H4 D = some (.lst acc) ∧ acc.length < sizeLine ∧ Nx (upd H4 D (.lst (acc ++ [y]))) else Nx H3) := by
  refine ⟨fun i m H => m = xs.length - i ∧ i ≤ xs.length ∧ Pv i H, ⟨xs.length, by simp, Nat.zero_le _, h0⟩, ?_⟩
  rintro i m H ⟨rfl, hi, p⟩
  obtain ⟨qx, qy⟩ := hq i H p
  by_cases hlt : i < xs.length
  · have hx : xs[i]? = some xs[i] := List.getElem?_eq_getElem hlt
    have hlt2 : i < ys.length := by omega
    have hy : ys[i]? = some ys[i] := List.getElem?_eq_getElem hlt2
    refine .inr ⟨⟨xs, ys, _, _, qx, qy, hx, hy⟩, Pv (i + 1), fun H' p' => ⟨xs.length - (i + 1), by omega, rfl, hlt, p'⟩, fun v H' yl => ?_⟩
    obtain ⟨T, x, y, rfl, hT, rfl, fx, fy⟩ := yl
    exact hs i x y T H (fx xs qx) (fy ys qy) p hT
  · have e : i = xs.length := by omega
    subst e
    exact .inl ⟨⟨xs, ys, qx, qy, .inl (Nat.le_refl _)⟩, hd H p⟩
theorem upPut {G : Hp} {p b : Addr} {o u : HO} (n : G p = none) (h : G b = some u) : upd G p o b = some u := by
  rw [upd_ne (ne_of_none h n)]
  exact h
/-- a step from a larger settled heap is one from the smaller -/
theorem Go.down {E0 F0 E F G : Hp} (a : Go (fun _ => False) E0 E E0 F) (x : Ex E0 F0) (b : Go (fun _ => False) F0 F F0 G) : Go (fun _ => False) E0 E E0 G where
  up := Ex.refl _
  inn := x.trans b.inn
  new := fun _ _ h => h
  keep := fun c o h n => b.keep c o (a.keep c o h n) n
  there := fun c h => b.there c (a.there c h)
end Rt

namespace Rt
open PySem PySem.Spec PyProof.Rows L2 RZ TL
/-! ### a text, several times -/
theorem fold_rep (a : Array Nat) : ∀ (n : Nat) (acc : Array Nat), ((List.replicate n a).foldl (· ++ ·) acc).size = acc.size + a.size * n ∧ ∀ c ∈ ((List.replicate n a).foldl (· ++ ·) acc).toList, c ∈ acc.toList ∨ c ∈ a.toList
  | 0, acc => ⟨by simp, fun c h => .inl h⟩
  | n + 1, acc => by
    have ih := fold_rep a n (acc ++ a)
    rw [List.replicate_succ, List.foldl_cons]
    refine ⟨by rw [ih.1, Array.size_append, Nat.mul_succ]; omega, fun c h => ?_⟩
    rcases ih.2 c h with h | h
    · rw [Array.toList_append] at h
      exact List.mem_append.mp h
    · exact .inr h
def rRepS : R2 := fun x y H Q => ∃ (z : Str) (n : Nat), x = .str z ∧ y = .int (n : Int) ∧ z.length ≤ 1000 ∧ n ≤ 1000 ∧ ∀ w : Str, w.length = z.length * n → (∀ c ∈ w.cps.toList, c ∈ z.cps.toList) → Q (.str w) H
theorem op_repS {X : Cx} : OpR X (binaryOp .Mult) rRepS := by
  intro pins s σ H x y v u Q I rx ry h
  obtain ⟨z, n, rfl, rfl, hz, hn, q⟩ := h
  obtain ⟨t, rfl⟩ := rx
  obtain ⟨t2, rfl⟩ := ry
  have lim : z.length * n ≤ 1000 * 1000 := Nat.mul_le_mul hz hn
  refine PySem.P.mul_str ?_ (fun h1 _ => ?_) (fun h1 _ => ?_) ?_
  · rw [decide_eq_false (by omega), decide_eq_false (by omega)]
    rfl
  · have h2 : (1000 : Int) ≤ (2 ^ 63 - 1) / (n : Int) := by
      rw [Int.le_ediv_iff_mul_le (by omega)]
      omega
    omega
  · rw [show (n : Int).toNat = n by omega]
    exact decide_eq_false fun h => by
      have := mem_sz lim
      omega
  · by_cases h1 : (n : Int) < 1
    · rw [if_pos h1]
      have n0 : n = 0 := by omega
      exact ⟨(by decide), .str Str.empty, H, I.tok _, ⟨_, rfl⟩, q Str.empty (by rw [n0, Nat.mul_zero]; rfl) (fun c h => nomatch h)⟩
    · rw [if_neg h1]
      by_cases h2 : ((n : Int) == 1 || z.length == 0) = true
      · rw [if_pos h2]
        refine ⟨.str z, H, I, ⟨_, rfl⟩, q z ?_ fun c h => h⟩
        rcases Bool.or_eq_true_iff.mp h2 with h | h
        · have : n = 1 := by have := beq_iff_eq.mp h; omega
          rw [this, Nat.mul_one]
        · have h := beq_iff_eq.mp h
          rw [h, Nat.zero_mul]
      · rw [if_neg h2]
        have f := fold_rep z.cps n #[]
        refine ⟨?_, .str _, H, I.tok _, ⟨_, rfl⟩, q _ ?_ fun c h => ?_⟩
        · show Array.size _ ≤ sizeLine
          rw [show (n : Int).toNat = n by omega, f.1]
          refine mem_sz (Nat.le_trans ?_ lim)
          show 0 + z.cps.size * n ≤ z.cps.size * n
          omega
        · show Array.size _ = _
          rw [show (n : Int).toNat = n by omega, f.1]
          show 0 + z.cps.size * n = z.cps.size * n
          omega
        · rw [show (n : Int).toNat = n by omega] at h
          exact (f.2 c h).elim (fun h => nomatch h) fun h => h
theorem at_n {α : Type} {xs : List α} {z : Int} {j : Nat} {v : α} (e : z = (j : Int)) (h : xs[j]? = some v) : atI xs z = some v := by
  subst e
  have hl := (List.getElem?_eq_some_iff.mp h).1
  unfold atI ixN
  rw [if_pos (by omega), if_pos (by omega)]
  show xs[(j : Int).toNat]? = some v
  rw [Int.toNat_natCast, h]
theorem joinL_mem : ∀ (parts : List (List Nat)) (c : Nat), c ∈ joinL [] parts → ∃ p ∈ parts, c ∈ p
  | [], c, h => nomatch h
  | [p], c, h => ⟨p, .head _, h⟩
  | p :: q :: r, c, h => by
    have h' : c ∈ p ++ ([] ++ joinL [] (q :: r)) := h
    rcases List.mem_append.mp h' with h1 | h1
    · exact ⟨p, .head _, h1⟩
    · obtain ⟨x, hx, hc⟩ := joinL_mem (q :: r) c h1
      exact ⟨x, .tail _ hx, hc⟩
theorem joinL_len : ∀ (parts : List (List Nat)), (∀ p ∈ parts, p.length = 1) → (joinL [] parts).length = parts.length
  | [], _ => rfl
  | [p], h => h p (.head _)
  | p :: q :: r, h => by
    show (p ++ ([] ++ joinL [] (q :: r))).length = (q :: r).length + 1
    rw [List.length_append, List.nil_append, joinL_len (q :: r) fun x hx => h x (.tail _ hx), h p (.head _)]
    omega
/-- signs joined -/
theorem join_signs (ys : List Str) (cs : List Nat) (h : ∀ y ∈ ys, ∃ c ∈ cs, y = ⟨#[c]⟩) : (Txt.join "" ys).length = ys.length ∧ ∀ c ∈ (Txt.join "" ys).cps.toList, c ∈ cs := by
  have e : tl (Txt.join "" ys) = joinL [] (ys.map tl) := by
    rw [join_eq, tl_join]
    rfl
  refine ⟨?_, fun c hc => ?_⟩
  · rw [len_tl, e, joinL_len, List.length_map]
    intro p hp
    obtain ⟨y, hy, rfl⟩ := List.mem_map.mp hp
    obtain ⟨c, _, rfl⟩ := h y hy
    rfl
  · have hc' : c ∈ tl (Txt.join "" ys) := hc
    rw [e] at hc'
    obtain ⟨p, hp, hcp⟩ := joinL_mem _ c hc'
    obtain ⟨y, hy, rfl⟩ := List.mem_map.mp hp
    obtain ⟨c', hc2, rfl⟩ := h y hy
    have : c = c' := List.mem_singleton.mp hcp
    rw [this]
    exact hc2
theorem sum_signs (ys : List Str) (cs : List Nat) (h : ∀ y ∈ ys, ∃ c ∈ cs, y = ⟨#[c]⟩) : (ys.map (·.length)).sum = ys.length := by
  induction ys with
  | nil => rfl
  | cons y r ih =>
    rw [List.map_cons, List.sum_cons, ih fun z hz => h z (.tail _ hz), List.length_cons]
    obtain ⟨c, _, rfl⟩ := h y (.head _)
    show 1 + r.length = r.length + 1
    omega
/-- a number drawn between its bounds -/
def spInts (lo hi : Int) : Sp := fun vs H Q _ => ∃ (d : Addr) (H0 : Hp), vs = [.ref d] ∧ Ex H0 H ∧ Dr H0 H d ∧
  ∀ (r : Int) (G0 H' : Hp), lo ≤ r → r ≤ hi → Go (· = d) H0 H G0 H' → Dr G0 H' d → Q (.int r) H'
theorem get_int (xs : List V) (lo hi : Int) (h : ∀ v ∈ xs, ∃ z, v = V.int z ∧ lo ≤ z ∧ z ≤ hi) (r : Int) (r0 : 0 ≤ r) (r1 : r < (xs.length : Int)) : ∃ z, xs[r.toNat]? = some (V.int z) ∧ lo ≤ z ∧ z ≤ hi := by
  have hl : r.toNat < xs.length := by omega
  obtain ⟨z, e, h1⟩ := h _ (List.getElem_mem hl)
  exact ⟨z, by rw [List.getElem?_eq_getElem hl, e], h1⟩
theorem win {z lo hi : Int} (h : lo ≤ z ∧ z ≤ hi) : withinV (.int z) lo hi = true := by
  show (decide (lo ≤ z) && decide (z ≤ hi)) = true
  rw [decide_eq_true h.1, decide_eq_true h.2]
  rfl
end Rt

namespace Rt
open PySem PySem.Spec PyProof.Rows L2 RZ TL
/-! ### tracks: lists of tuples of numbers and texts -/
def tickOf (xs : List V) : Int := match xs with
  | .int t :: _ => t
  | _ => 0
def scD (v : V) : PyData := match v with
  | .int z => .int z
  | .str s => .str s
  | _ => .none
def evD (xs : List V) : PyData := .tuple (xs.map scD)
def trackD (evs : List (List V)) : PyData := .list (evs.map evD)
/-- the events stand at the addresses -/
def Evs (G : Hp) (ps : List Addr) (evs : List (List V)) : Prop := ps.length = evs.length ∧ ∀ (i : Nat) (p : Addr) (xs : List V), ps[i]? = some p → evs[i]? = some xs → G p = some (.tup xs)
/-- a number, or a text that can stand anywhere -/
def Scal2 (v : V) : Prop := (∃ z, v = .int z) ∨ ∃ s : Str, v = .str s ∧ s.length ≤ 1000 ∧ PyData.strOk s = true
theorem Scal2.s {v : V} (h : Scal2 v) : Scal v := h.elim .inl fun ⟨s, e, l, _⟩ => .inr ⟨s, e, l⟩
def Okx (xs : List V) : Prop := (∀ x ∈ xs, Scal2 x) ∧ xs.length ≤ 100
theorem Okx.s {xs : List V} (h : Okx xs) : ∀ x ∈ xs, Scal x := fun x hx => (h.1 x hx).s
theorem Evs.nil (G : Hp) : Evs G [] [] := ⟨rfl, fun i p xs h => by simp at h⟩
theorem Evs.up {G G' : Hp} {ps : List Addr} {evs : List (List V)} (h : Evs G ps evs) (x : Ex G G') : Evs G' ps evs := ⟨h.1, fun i p xs h1 h2 => x _ _ (h.2 i p xs h1 h2)⟩
theorem Evs.snoc {G : Hp} {ps : List Addr} {evs : List (List V)} {p : Addr} {xs : List V} (h : Evs G ps evs) (hp : G p = some (.tup xs)) : Evs G (ps ++ [p]) (evs ++ [xs]) := by
  refine ⟨by rw [List.length_append, List.length_append, h.1]; rfl, fun i q ys h1 h2 => ?_⟩
  by_cases hi : i < ps.length
  · rw [List.getElem?_append_left hi] at h1
    rw [List.getElem?_append_left (by rw [← h.1]; exact hi)] at h2
    exact h.2 i q ys h1 h2
  · rw [List.getElem?_append_right (by omega)] at h1
    rw [List.getElem?_append_right (by rw [← h.1]; omega), ← h.1] at h2
    generalize i - ps.length = j at h1 h2
    match j, h1, h2 with
    | 0, h1, h2 =>
      cases h1
      cases h2
      exact hp
    | k + 1, h1, h2 => simp at h1
theorem Evs.set {G : Hp} {ps : List Addr} {evs : List (List V)} {p : Addr} {xs : List V} (h : Evs G ps evs) (j : Nat) (hp : G p = some (.tup xs)) : Evs G (ps.set j p) (evs.set j xs) := by
  refine ⟨by rw [List.length_set, List.length_set, h.1], fun i q ys h1 h2 => ?_⟩
  rw [List.getElem?_set] at h1 h2
  by_cases e : j = i
  · rw [if_pos e] at h1 h2
    by_cases l : j < ps.length
    · rw [if_pos l] at h1
      rw [if_pos (by rw [← h.1]; exact l)] at h2
      cases h1
      cases h2
      exact hp
    · rw [if_neg l] at h1
      cases h1
  · rw [if_neg e] at h1 h2
    exact h.2 i q ys h1 h2
theorem Evs.at_ {G : Hp} {ps : List Addr} {evs : List (List V)} (h : Evs G ps evs) {i : Nat} (hi : i < evs.length) : ∃ p xs, ps[i]? = some p ∧ evs[i]? = some xs ∧ G p = some (.tup xs) := by
  have hl : i < ps.length := by rw [h.1]; exact hi
  exact ⟨ps[i], evs[i], List.getElem?_eq_getElem hl, List.getElem?_eq_getElem hi, h.2 i _ _ (List.getElem?_eq_getElem hl) (List.getElem?_eq_getElem hi)⟩
section
variable {K : PySem.W.Frag} {G : Hp}
theorem dp_sc {v : V} (h : Scal v) : Dp K G v (scD v) := by
  rcases h with ⟨z, rfl⟩ | ⟨s, rfl, _⟩
  · exact .int z
  · exact .str s
theorem dp_scs : ∀ xs : List V, (∀ x ∈ xs, Scal x) → DpAll K G xs (xs.map scD)
  | [], _ => .nil
  | x :: r, h => .cons (dp_sc (h x (.head _))) (dp_scs r fun y hy => h y (.tail _ hy))
theorem dp_ev {p : Addr} {xs : List V} (hp : G p = some (.tup xs)) (h : ∀ x ∈ xs, Scal x) : Dp K G (.ref p) (evD xs) := .tup (SqT.of hp) (dp_scs xs h)
theorem dp_evs : ∀ (ps : List Addr) (evs : List (List V)), Evs G ps evs → (∀ xs ∈ evs, Okx xs) → DpAll K G (ps.map V.ref) (evs.map evD)
  | [], [], _, _ => .nil
  | p :: ps, xs :: evs, h, ok => .cons (dp_ev (h.2 0 p xs rfl rfl) (ok xs (.head _)).s) (dp_evs ps evs ⟨by have := h.1; simpa using this, fun i q ys h1 h2 => h.2 (i + 1) q ys h1 h2⟩ fun ys hy => ok ys (.tail _ hy))
  | [], xs :: evs, h, _ => by have := h.1; simp at this
  | p :: ps, [], h, _ => by have := h.1; simp at this
theorem dp_track {a : Addr} {ps : List Addr} {evs : List (List V)} (ha : G a = some (.lst (ps.map V.ref))) (h : Evs G ps evs) (ok : ∀ xs ∈ evs, Okx xs) : Dp K G (.ref a) (trackD evs) := .lst (SqL.of ha) (dp_evs ps evs h ok)
end
theorem sc_depth (v : V) : (scD v).depth = 0 := by
  cases v <;> rfl
theorem scs_depth : ∀ xs : List V, PyData.depthAll (xs.map scD) = 0
  | [] => rfl
  | x :: r => by
    show max (scD x).depth (PyData.depthAll (r.map scD)) = 0
    rw [sc_depth, scs_depth r]
    rfl
theorem ev_depth (xs : List V) : (evD xs).depth = 1 := by
  show PyData.depthAll (xs.map scD) + 1 = 1
  rw [scs_depth]
theorem evs_depth : ∀ evs : List (List V), PyData.depthAll (evs.map evD) ≤ 1
  | [] => Nat.zero_le _
  | x :: r => by
    show max (evD x).depth (PyData.depthAll (r.map evD)) ≤ 1
    rw [ev_depth]
    have := evs_depth r
    omega
theorem track_depth (evs : List (List V)) : (trackD evs).depth ≤ 2 := by
  show PyData.depthAll (evs.map evD) + 1 ≤ 2
  have := evs_depth evs
  omega
theorem sc_lay {v : V} (h : Scal2 v) : (scD v).canLay0 = true := by
  rcases h with ⟨z, rfl⟩ | ⟨s, rfl, _, h⟩
  · rfl
  · exact h
theorem scs_lay : ∀ xs : List V, (∀ x ∈ xs, Scal2 x) → PyData.canLayAll0 (xs.map scD) = true
  | [], _ => rfl
  | x :: r, h => by
    show ((scD x).canLay0 && PyData.canLayAll0 (r.map scD)) = true
    rw [sc_lay (h x (.head _)), scs_lay r fun y hy => h y (.tail _ hy)]
    rfl
theorem evs_lay : ∀ evs : List (List V), (∀ xs ∈ evs, Okx xs) → PyData.canLayAll0 (evs.map evD) = true
  | [], _ => rfl
  | x :: r, h => by
    show ((evD x).canLay0 && PyData.canLayAll0 (r.map evD)) = true
    rw [evs_lay r fun y hy => h y (.tail _ hy), Bool.and_true]
    exact scs_lay x (h x (.head _)).1
theorem track_shaped {evs : List (List V)} (h : ∀ xs ∈ evs, Okx xs) : SeqAt.shaped (trackD evs) = true := by
  show ((trackD evs).canLay0 && decide ((trackD evs).depth ≤ 64)) = true
  rw [decide_eq_true (Nat.le_trans (track_depth evs) (by decide)), Bool.and_true]
  exact evs_lay evs h
theorem track_eq {evs : List (List V)} (h : ∀ xs ∈ evs, Okx xs) : PyData.eqv (trackD evs) (trackD evs) = true := SeqAt.eqv_refl _ (SeqAt.canLay_of_shaped (track_shaped h))
theorem nil_shaped : SeqAt.shaped (.list []) = true := by decide
theorem track_nil (evs : List (List V)) : PyData.eqv (trackD evs) (.list []) = decide (evs = []) := by
  cases evs with
  | nil => rfl
  | cons x r => rfl
theorem sc_sm (v : V) : smA (scD v) := by
  cases v <;> exact True.intro
theorem scs_sm : ∀ xs : List V, smAll (xs.map scD)
  | [] => True.intro
  | x :: r => ⟨sc_sm x, scs_sm r⟩
theorem ev_sm {xs : List V} (h : xs.length ≤ 100) : smA (evD xs) := ⟨by rw [List.length_map]; omega, scs_sm xs⟩
theorem evs_sm : ∀ evs : List (List V), (∀ xs ∈ evs, Okx xs) → smAll (evs.map evD)
  | [], _ => True.intro
  | x :: r, h => ⟨ev_sm (h x (.head _)).2, evs_sm r fun y hy => h y (.tail _ hy)⟩
theorem track_sm {evs : List (List V)} (h : ∀ xs ∈ evs, Okx xs) (hl : evs.length ≤ 10000) : smA (trackD evs) := ⟨by rw [List.length_map]; omega, evs_sm evs h⟩
theorem strOk_signs {s : Str} (h : ∀ c ∈ s.cps.toList, c ∈ signsS.cps.toList) : PyData.strOk s = true := by
  have e : ∀ c ∈ signsS.cps.toList, (fun c : Nat => decide (c < 0x110000)) c = true := by decide +kernel
  unfold PyData.strOk
  rw [← Array.all_toList]
  exact List.all_eq_true.mpr fun c hc => e c (h c hc)
theorem withinAll_int : ∀ (vs : List V) (bs : List (Int × Int)), withinAll vs bs = true → ∀ v ∈ vs, ∃ z, v = .int z
  | [], _, _, v, hv => nomatch hv
  | x :: vs, [], h, _, _ => nomatch h
  | x :: vs, b :: bs, h, v, hv => by
    have h' : (withinV x b.1 b.2 && withinAll vs bs) = true := h
    rw [Bool.and_eq_true] at h'
    rcases List.mem_cons.mp hv with rfl | hv
    · cases v with
      | int z => exact ⟨z, rfl⟩
      | _ => exact absurd h'.1 (by simp [withinV])
    · exact withinAll_int vs bs h'.2 v hv
/-- a good thing's texts can stand anywhere -/
theorem thing_scal {xs : List V} (h : thingOk xs = true) : ∀ x ∈ xs, Scal2 x := by
  match xs, h with
  | .str w :: r, h =>
    by_cases hw : w = "mark"
    · subst hw
      rw [thing_mark] at h
      match r, h with
      | [y], h =>
        intro x hx
        simp only [List.mem_cons, List.mem_nil_iff, or_false] at hx
        rcases hx with rfl | rfl
        · exact .inr ⟨_, rfl, by decide, by decide +kernel⟩
        · cases x with
          | str s =>
            have h' : (decide (s.length ≤ 12) && s.cps.toList.all (fun c => decide (c ∈ signsS.cps.toList))) = true := h
            rw [Bool.and_eq_true] at h'
            have h1 := of_decide_eq_true h'.1
            exact .inr ⟨s, rfl, by omega, strOk_signs fun c hc => of_decide_eq_true (List.all_eq_true.mp h'.2 c hc)⟩
          | _ => cases h
    · rw [thing_word hw] at h
      cases hb : wordB w with
      | none => rw [hb] at h; cases h
      | some bs =>
        rw [hb] at h
        have h' : withinAll r bs = true := h
        have hs : PyData.strOk w = true ∧ w.length ≤ 1000 := by
          unfold wordB at hb
          by_cases e1 : w = "on"
          · rw [e1]; exact ⟨by decide +kernel, by decide⟩
          rw [if_neg e1] at hb
          by_cases e2 : w = "off"
          · rw [e2]; exact ⟨by decide +kernel, by decide⟩
          rw [if_neg e2] at hb
          by_cases e3 : w = "knob"
          · rw [e3]; exact ⟨by decide +kernel, by decide⟩
          rw [if_neg e3] at hb
          by_cases e4 : w = "voice"
          · rw [e4]; exact ⟨by decide +kernel, by decide⟩
          rw [if_neg e4] at hb
          cases hb
        intro x hx
        rcases List.mem_cons.mp hx with rfl | hx
        · exact .inr ⟨w, rfl, hs.2, hs.1⟩
        · exact .inl (withinAll_int r bs h' x hx)
/-! ### tables by place, walked -/
/-- enumerate: a new pair at each turn -/
theorem for_enum {K : PySem.W.Frag} {a : Addr} {xs : List V} {g : TG} {tb : TS} {D : Ends} {σ : L2.St} {H : Hp} (Pv : Nat → L2.St → Hp → Prop) (h0 : Pv 0 σ H) (hq : ∀ i σ H, Pv i σ H → SqL K H a xs)
    (hs : ∀ (i : Nat) (x : V) (T : Addr) (σ : L2.St) (H : Hp), xs[i]? = some x → Pv i σ H → H T = none → g (.ref T) σ (upd H T (.tup [.int (i : Nat), x])) fun σ2 H2 => tb { D with nx := Pv (i + 1), ct := Pv (i + 1), bk := D.nx } σ2 H2) (hd : ∀ σ H, Pv xs.length σ H → D.nx σ H) :
    ∃ W : Nat → Nat → L2.St → Hp → Prop, (∃ m, W 0 m σ H) ∧ ∀ i m σ H, W i m σ H →
      ((Ite K a).stop i H ∧ D.nx σ H) ∨ ((Ite K a).go i H ∧ ∃ N : L2.St → Hp → Prop, (∀ σ' H', N σ' H' → ∃ m', m' < m ∧ W (i + 1) m' σ' H') ∧ ∀ v H', (Ite K a).yld i H v H' → g v σ H' fun σ2 H2 => tb { D with nx := N, ct := N, bk := D.nx } σ2 H2) := by
  refine ⟨fun i m σ H => m = xs.length - i ∧ i ≤ xs.length ∧ Pv i σ H, ⟨xs.length, rfl, Nat.zero_le _, h0⟩, ?_⟩
  rintro i m σ H ⟨rfl, hi, p⟩
  have qx := hq i σ H p
  by_cases hlt : i < xs.length
  · have hx : xs[i]? = some xs[i] := List.getElem?_eq_getElem hlt
    refine .inr ⟨⟨xs, _, qx, hx⟩, Pv (i + 1), fun σ' H' p' => ⟨xs.length - (i + 1), by omega, rfl, hlt, p'⟩, fun v H' yl => ?_⟩
    obtain ⟨T, x, rfl, hT, rfl, fx⟩ := yl
    exact hs i x T σ H (fx xs qx) p hT
  · have e : i = xs.length := by omega
    subst e
    exact .inl ⟨⟨xs, qx, Nat.le_refl _⟩, hd σ H p⟩
/-- t + u of two settled tuples -/
theorem cat_x {K : PySem.W.Frag} {d : Addr} {H0 B G0 H : Hp} {a b : Addr} {xs ys : List V} {Q : VK} (S : Sd d H0 B G0 H) (ha : G0 a = some (.tup xs)) (hb : G0 b = some (.tup ys)) (hz : xs.length + ys.length ≤ 1000)
    (q : ∀ (c : Addr) (G1 H1 : Hp), Sd d H0 B G1 H1 → Ex G0 G1 → Ex H H1 → (∀ x, H x ≠ none → G0 x = none → G1 x = none) → G1 c = some (.tup (xs ++ ys)) → Q (.ref c) H1) : rCatA K (.ref a) (.ref b) H Q := by
  refine ⟨a, b, xs, ys, rfl, rfl, SqT.of (S.ex _ _ ha), SqT.of (S.ex _ _ hb), mem_sz (by omega), fun e => ?_, fun _ e => ?_, fun _ _ p hp => ?_⟩
  · exact q b G0 H S (Ex.refl _) (Ex.refl _) (fun _ _ h => h) (by rw [hb, e]; rfl)
  · exact q a G0 H S (Ex.refl _) (Ex.refl _) (fun _ _ h => h) (by rw [ha, e, List.append_nil])
  · refine q p _ _ (S.put _ hp) (Ex.new (S.ex.free hp)) (Ex.new hp) (fun x h1 h2 => ?_) upd_same
    have n : x ≠ p := fun z => h1 (by rw [z]; exact hp)
    rw [upd_ne n]
    exact h2
/-- a track in the making: its list at p, not settled -/
structure TrS (d : Addr) (H0 B : Hp) (p : Addr) (ps : List Addr) (evs : List (List V)) (G H : Hp) : Prop where
  S : Sd d H0 B G H
  hp : H p = some (.lst (ps.map V.ref))
  h0 : G p = none
  hev : Evs G ps evs
  np : d ≠ p
section
variable {d : Addr} {H0 B : Hp} {p : Addr} {ps : List Addr} {evs : List (List V)} {G H : Hp}
theorem TrS.ne {x : Addr} (T : TrS d H0 B p ps evs G H) (h : H x = none) : p ≠ x := ne_of_none T.hp h
theorem TrS.put {x : Addr} (o : HO) (T : TrS d H0 B p ps evs G H) (h : H x = none) : TrS d H0 B p ps evs (upd G x o) (upd H x o) where
  S := T.S.put o h
  hp := (upd_ne (T.ne h)).trans T.hp
  h0 := (upd_ne (T.ne h)).trans T.h0
  hev := T.hev.up (Ex.new (T.S.ex.free h))
  np := T.np
theorem TrS.call {G' H' : Hp} (T : TrS d H0 B p ps evs G H) (g : Go (· = d) G H G' H') (hD : Dr G' H' d) : TrS d H0 B p ps evs G' H' where
  S := T.S.call g hD
  hp := g.keep p _ T.hp fun z => T.np z.symm
  h0 := g.new p (by rw [T.hp]; simp) T.h0
  hev := T.hev.up g.up
  np := T.np
theorem TrS.cat {K : PySem.W.Frag} {a b : Addr} {xs ys : List V} {Q : VK} (T : TrS d H0 B p ps evs G H) (ha : G a = some (.tup xs)) (hb : G b = some (.tup ys)) (hz : xs.length + ys.length ≤ 1000)
    (q : ∀ (c : Addr) (G1 H1 : Hp), TrS d H0 B p ps evs G1 H1 → Ex G G1 → G1 c = some (.tup (xs ++ ys)) → Q (.ref c) H1) : rCatA K (.ref a) (.ref b) H Q :=
  cat_x T.S ha hb hz fun c G1 H1 S1 x1 y1 k1 hc => q c G1 H1 ⟨S1, y1 _ _ T.hp, k1 p (by rw [T.hp]; simp) T.h0, T.hev.up x1, T.np⟩ x1 hc
end
/-- a tuple of numbers and texts, settled -/
def RefOk (G : Hp) (v : V) : Prop := ∃ q xs, v = .ref q ∧ G q = some (.tup xs) ∧ Okx xs
theorem RefOk.up {G G' : Hp} {v : V} (h : RefOk G v) (x : Ex G G') : RefOk G' v := by
  obtain ⟨q, xs, e, h1, h2⟩ := h
  exact ⟨q, xs, e, x _ _ h1, h2⟩
theorem sc2I (z : Int) : Scal2 (.int z) := .inl ⟨z, rfl⟩
theorem okx_app {xs ys : List V} (h1 : ∀ x ∈ xs, Scal2 x) (h2 : ∀ x ∈ ys, Scal2 x) (hl : xs.length + ys.length ≤ 100) : Okx (xs ++ ys) :=
  ⟨fun x hx => (List.mem_append.mp hx).elim (h1 x) (h2 x), by rw [List.length_append]; exact hl⟩
theorem cutV_in (xs : List V) (lo hi : Option Int) : (∀ v ∈ cutV xs lo hi, v ∈ xs) ∧ (cutV xs lo hi).length ≤ xs.length := by
  unfold cutV
  refine ⟨fun v h => List.mem_of_mem_drop (List.mem_of_mem_take h), ?_⟩
  rw [List.length_take, List.length_drop]
  omega
theorem sI_neg (n : Nat) (d : Nat) : HT.sIx n d (some (-1)) = ((-1 : Int) + (n : Int)).toNat := rfl
theorem sI_one (n d : Nat) (h : 0 < n) : HT.sIx n d (some 1) = 1 := by
  show (if (1 : Int) < 0 then ((1 : Int) + (n : Int)).toNat else min (1 : Int).toNat n) = 1
  rw [if_neg (by decide)]
  show min 1 n = 1
  omega
theorem isEv_head {xs : List V} (h : isEv xs = true) : ∃ t ys, xs = .int t :: ys ∧ 0 ≤ t := by
  match xs, h with
  | .int t :: ys, h =>
    have h' : (withinV (.int t) 0 999999 && thingOk ys) = true := h
    rw [Bool.and_eq_true] at h'
    have h2 : (decide (0 ≤ t) && decide (t ≤ 999999)) = true := h'.1
    rw [Bool.and_eq_true] at h2
    exact ⟨t, ys, rfl, of_decide_eq_true h2.1⟩
theorem getD_of {evs : List (List V)} {i : Nat} {xs : List V} (h : evs[i]? = some xs) : evs.getD i [] = xs := by
  rw [List.getD_eq_getElem?_getD, h]
  rfl
/-- a good event, drawn -/
def GoodEv (xs : List V) : Prop := isEv xs = true ∧ Okx xs ∧ xs.length ≤ 5 ∧ ∃ t ys, xs = .int t :: ys ∧ 0 ≤ t ∧ t ≤ 999999 ∧ thingOk ys = true
theorem good_mk {t : Int} {ys : List V} (h0 : 0 ≤ t) (h1 : t ≤ 999999) (h : thingOk ys = true) (hl : ys.length ≤ 4) : GoodEv (.int t :: ys) := by
  refine ⟨?_, ⟨fun x hx => ?_, ?_⟩, ?_, t, ys, rfl, h0, h1, h⟩
  · show (withinV (.int t) 0 999999 && thingOk ys) = true
    rw [win ⟨h0, h1⟩, h]
    rfl
  · rcases List.mem_cons.mp hx with rfl | hx
    · exact .inl ⟨t, rfl⟩
    · exact thing_scal h x hx
  · rw [List.length_cons]
    omega
  · rw [List.length_cons]
    omega
/-- the ticks rise -/
def Rise (evs : List (List V)) : Prop := ∀ (i : Nat) (x y : List V), evs[i]? = some x → evs[i + 1]? = some y → tickOf x ≤ tickOf y
/-- a good track drawn: a new list, not settled -/
def spTrack : Sp := fun vs H Q _ => ∃ (d : Addr) (m : Nat) (H0 : Hp), vs = [.ref d, .int (m : Int)] ∧ m ≤ 1000 ∧ Ex H0 H ∧ Dr H0 H d ∧
  ∀ (p : Addr) (ps : List Addr) (evs : List (List V)) (G0 H' : Hp), Go (· = d) H0 H G0 H' → Dr G0 H' d → H p = none → H' p = some (.lst (ps.map V.ref)) → G0 p = none → Evs G0 ps evs → evs.length ≤ m → (∀ xs ∈ evs, GoodEv xs) → Rise evs → Q (.ref p) H'
end Rt

namespace Rt
open PySem PySem.Spec PyProof.Rows L2 RZ TL
/-! ### {t} of a tuple of numbers and texts: some text -/
def Scal3 (v : V) : Prop := (∃ z : Int, v = .int z ∧ z.natAbs < 10 ^ 40) ∨ ∃ s : Str, v = .str s ∧ s.length ≤ 100 ∧ PyData.strOk s = true
theorem Scal3.s2 {v : V} (h : Scal3 v) : Scal2 v := h.elim (fun ⟨z, e, _⟩ => .inl ⟨z, e⟩) fun ⟨s, e, l, k⟩ => .inr ⟨s, e, by omega, k⟩
def scT (v : V) : Str := match v with
  | .int z => (toString z : String)
  | .str y => reprText y
  | _ => Str.empty
theorem strOk_lt {s : Str} (h : PyData.strOk s = true) : ∀ c ∈ s.cps.toList, c < 16 ^ 8 := fun c hc => by
  unfold PyData.strOk at h
  rw [← Array.all_toList] at h
  have := of_decide_eq_true (List.all_eq_true.mp h c hc)
  exact Nat.lt_trans this (by decide)
theorem scT_len {v : V} (h : Scal3 v) : (scT v).length ≤ 1921 := by
  rcases h with ⟨z, rfl, hz⟩ | ⟨s, rfl, hl, hk⟩
  · exact PyProof.Rows.int_text_len_1921 (log_small hz)
  · have := StrLaws.reprText_len s (strOk_lt hk)
    show (reprText s).length ≤ 1921
    omega
theorem scT_all {prog : Program} {w : World} : ∀ {xs : List V} {its : List Value}, Vals xs its → (∀ v ∈ xs, Scal3 v) → ReprAll prog w its (xs.map scT)
  | [], _, r, _ => by
    cases r
    exact .nil
  | v :: xs, _, r, h => by
    cases r with
    | cons r1 r2 =>
      have tl := scT_all (prog := prog) (w := w) r2 fun z hz => h z (.tail _ hz)
      have hlen := scT_len (h v (.head _))
      rcases h v (.head _) with ⟨z, rfl, hz⟩ | ⟨s, rfl, hl, hk⟩
      · obtain ⟨t, rfl⟩ := r1
        exact .cons (ReprIs.int t (log_small hz)) tl
      · obtain ⟨t, rfl⟩ := r1
        exact .cons (ReprIs.str s t (mem_sz (by have : (reprText s).length ≤ 1921 := hlen; omega))) tl
theorem scT_piled : ∀ xs : List V, (∀ v ∈ xs, Scal3 v) → piled (xs.map scT) ≤ 1923 * xs.length
  | [], _ => Nat.zero_le _
  | v :: xs, h => by
    have h1 := scT_len (h v (.head _))
    have h2 := scT_piled xs fun z hz => h z (.tail _ hz)
    rw [List.map_cons, piled_cons, List.length_cons]
    omega
def tFmtM (K : PySem.W.Frag) (te : TE) : TE := fun σ H Q => te σ H fun x H1 => ∃ (a : Addr) (xs : List V), x = .ref a ∧ SqT K H1 a xs ∧ (∀ v ∈ xs, Scal3 v) ∧ xs.length ≤ 50 ∧ ∀ m : Str, m.length ≤ 100000 → Q (.str m) H1
theorem pe_fmtM {X : Cx} {e : Expr} {te : TE} {pos : Pos} {k : Nat} (hr : Room k X.A) (he : PE X e te) : PE X (.FormattedValue e (-1) none pos) (tFmtM X.K te) := by
  refine ⟨fun pins s σ H Q I h => ?_⟩
  refine wpAny_FormattedValue_plain (thn (he.run pins s σ H _ I h) fun v s1 hv => ?_)
  obtain ⟨x, H1, I1, r1, a, xs, rfl, ht, hc, hl, q⟩ := hv
  cases r1
  obtain ⟨its, rv, ⟨o, ho, hcl, n, hd⟩, _⟩ := I1.tuple ht
  have hp := scT_piled xs hc
  have htx := fmt_text (xs.map scT)
  have hu := hr.units
  have hb : (tupleText (xs.map scT)).length ≤ 99000 := by omega
  exact fmt_tuple (ts := xs.map scT) (by omega) ho hcl hd (scT_all rv hc) (mem_sz (by omega)) fun m u tk hm => ⟨.str m, H1, I1.tok _, ⟨u, rfl⟩, q m (by omega)⟩
theorem withinAll_small : ∀ (vs : List V) (bs : List (Int × Int)), (∀ b ∈ bs, 0 ≤ b.1 ∧ b.2 ≤ 127) → withinAll vs bs = true → ∀ v ∈ vs, ∃ z, v = .int z ∧ 0 ≤ z ∧ z ≤ 127
  | [], _, _, _, v, hv => nomatch hv
  | x :: vs, [], _, h, _, _ => nomatch h
  | x :: vs, b :: bs, hb, h, v, hv => by
    have h' : (withinV x b.1 b.2 && withinAll vs bs) = true := h
    rw [Bool.and_eq_true] at h'
    rcases List.mem_cons.mp hv with rfl | hv
    · cases v with
      | int z =>
        have h2 : (decide (b.1 ≤ z) && decide (z ≤ b.2)) = true := h'.1
        rw [Bool.and_eq_true] at h2
        have h3 := of_decide_eq_true h2.1
        have h4 := of_decide_eq_true h2.2
        have h5 := hb b (.head _)
        exact ⟨z, rfl, by omega, by omega⟩
      | _ => exact absurd h'.1 (by simp [withinV])
    · exact withinAll_small vs bs (fun c hc => hb c (.tail _ hc)) h'.2 v hv
theorem wordB_small {w : Str} {bs : List (Int × Int)} (hb : wordB w = some bs) : (∀ b ∈ bs, 0 ≤ b.1 ∧ b.2 ≤ 127) ∧ PyData.strOk w = true ∧ w.length ≤ 100 := by
  unfold wordB at hb
  by_cases e1 : w = "on"
  · rw [if_pos e1] at hb
    cases hb
    rw [e1]
    exact ⟨by decide, by decide +kernel, by decide⟩
  rw [if_neg e1] at hb
  by_cases e2 : w = "off"
  · rw [if_pos e2] at hb
    cases hb
    rw [e2]
    exact ⟨by decide, by decide +kernel, by decide⟩
  rw [if_neg e2] at hb
  by_cases e3 : w = "knob"
  · rw [if_pos e3] at hb
    cases hb
    rw [e3]
    exact ⟨by decide, by decide +kernel, by decide⟩
  rw [if_neg e3] at hb
  by_cases e4 : w = "voice"
  · rw [if_pos e4] at hb
    cases hb
    rw [e4]
    exact ⟨by decide, by decide +kernel, by decide⟩
  rw [if_neg e4] at hb
  cases hb
theorem sc3I {z : Int} (h0 : -10000000 ≤ z) (h1 : z ≤ 10000000) : Scal3 (.int z) := by
  have : (10000000 : Nat) < 10 ^ 40 := by decide
  exact .inl ⟨z, rfl, by omega⟩
theorem thing_scal3 {xs : List V} (h : thingOk xs = true) : ∀ x ∈ xs, Scal3 x := by
  match xs, h with
  | .str w :: r, h =>
    by_cases hw : w = "mark"
    · subst hw
      rw [thing_mark] at h
      match r, h with
      | [y], h =>
        intro x hx
        simp only [List.mem_cons, List.mem_nil_iff, or_false] at hx
        rcases hx with rfl | rfl
        · exact .inr ⟨_, rfl, by decide, by decide +kernel⟩
        · cases x with
          | str s =>
            have h' : (decide (s.length ≤ 12) && s.cps.toList.all (fun c => decide (c ∈ signsS.cps.toList))) = true := h
            rw [Bool.and_eq_true] at h'
            have h1 := of_decide_eq_true h'.1
            exact .inr ⟨s, rfl, by omega, strOk_signs fun c hc => of_decide_eq_true (List.all_eq_true.mp h'.2 c hc)⟩
          | _ => cases h
    · rw [thing_word hw] at h
      cases hb : wordB w with
      | none => rw [hb] at h; cases h
      | some bs =>
        rw [hb] at h
        have h' : withinAll r bs = true := h
        obtain ⟨b1, b2, b3⟩ := wordB_small hb
        intro x hx
        rcases List.mem_cons.mp hx with rfl | hx
        · exact .inr ⟨w, rfl, b3, b2⟩
        · obtain ⟨z, rfl, z0, z1⟩ := withinAll_small r bs b1 h' x hx
          exact sc3I (by omega) (by omega)
theorem Evs.take {G : Hp} {ps : List Addr} {evs : List (List V)} (h : Evs G ps evs) (n : Nat) : Evs G (ps.take n) (evs.take n) := by
  refine ⟨by rw [List.length_take, List.length_take, h.1], fun i p xs h1 h2 => ?_⟩
  rw [List.getElem?_take] at h1 h2
  by_cases c : i < n
  · rw [if_pos c] at h1 h2
    exact h.2 i p xs h1 h2
  · rw [if_neg c] at h1
    cases h1
theorem Evs.drop {G : Hp} {ps : List Addr} {evs : List (List V)} (h : Evs G ps evs) (n : Nat) : Evs G (ps.drop n) (evs.drop n) := by
  refine ⟨by rw [List.length_drop, List.length_drop, h.1], fun i p xs h1 h2 => ?_⟩
  rw [List.getElem?_drop] at h1 h2
  exact h.2 (n + i) p xs h1 h2
theorem Evs.append {G : Hp} {ps qs : List Addr} {evs fvs : List (List V)} (h : Evs G ps evs) (k : Evs G qs fvs) : Evs G (ps ++ qs) (evs ++ fvs) := by
  refine ⟨by rw [List.length_append, List.length_append, h.1, k.1], fun i p xs h1 h2 => ?_⟩
  by_cases c : i < ps.length
  · rw [List.getElem?_append_left c] at h1
    rw [List.getElem?_append_left (by rw [← h.1]; exact c)] at h2
    exact h.2 i p xs h1 h2
  · rw [List.getElem?_append_right (by omega)] at h1
    rw [List.getElem?_append_right (by rw [← h.1]; omega), ← h.1] at h2
    exact k.2 _ p xs h1 h2
theorem Evs.one {G : Hp} {p : Addr} {xs : List V} (h : G p = some (.tup xs)) : Evs G [p] [xs] := by
  have := (Evs.nil G).snoc h
  exact this
theorem cutV_take (xs : List V) (n : Nat) (h : n ≤ xs.length) : cutV xs none (some (n : Int)) = xs.take n := by
  unfold cutV
  have e1 : HT.sIx xs.length 0 none = 0 := rfl
  have e2 : HT.sIx xs.length xs.length (some (n : Int)) = n := by
    show (if (n : Int) < 0 then ((n : Int) + (xs.length : Int)).toNat else min (n : Int).toNat xs.length) = n
    rw [if_neg (by omega)]
    omega
  rw [e1, e2]
  rfl
theorem cutV_drop (xs : List V) (n : Nat) (h : n ≤ xs.length) : cutV xs (some (n : Int)) none = xs.drop n := by
  unfold cutV
  have e1 : HT.sIx xs.length xs.length none = xs.length := rfl
  have e2 : HT.sIx xs.length 0 (some (n : Int)) = n := by
    show (if (n : Int) < 0 then ((n : Int) + (xs.length : Int)).toNat else min (n : Int).toNat xs.length) = n
    rw [if_neg (by omega)]
    omega
  rw [e1, e2, List.take_of_length_le (by rw [List.length_drop]; exact Nat.le_refl _)]
/-- the like of TrS.cat for a settled stand -/
theorem cat_s {K : PySem.W.Frag} {d : Addr} {H0 B G0 H : Hp} {a b : Addr} {xs ys : List V} {Q : VK} (S : Sd d H0 B G0 H) (ha : G0 a = some (.tup xs)) (hb : G0 b = some (.tup ys)) (hz : xs.length + ys.length ≤ 1000)
    (q : ∀ (c : Addr) (G1 H1 : Hp), Sd d H0 B G1 H1 → Ex G0 G1 → Ex H H1 → G1 c = some (.tup (xs ++ ys)) → Q (.ref c) H1) : rCatA K (.ref a) (.ref b) H Q :=
  cat_x S ha hb hz fun c G1 H1 S1 x1 y1 _ hc => q c G1 H1 S1 x1 y1 hc
end Rt

namespace Rt
open PySem PySem.Spec PyProof.Rows L2 RZ TL LamX
/-- a settled track and the tables -/
structure KS (d : Addr) (A0 B0 : Hp) (TT : List (Addr × Str)) (p : Addr) (ps : List Addr) (evs : List (List V)) (G H : Hp) : Prop where
  S : Sd d A0 B0 G H
  hp : G p = some (.lst (ps.map V.ref))
  hev : Evs G ps evs
  hT : Tabs TT H
section
variable {d : Addr} {A0 B0 : Hp} {TT : List (Addr × Str)} {p : Addr} {ps : List Addr} {evs : List (List V)} {G H : Hp}
theorem KS.put {x : Addr} (o : HO) (T : KS d A0 B0 TT p ps evs G H) (h : H x = none) : KS d A0 B0 TT p ps evs (upd G x o) (upd H x o) :=
  ⟨T.S.put o h, upPut (T.S.ex.free h) T.hp, T.hev.up (Ex.new (T.S.ex.free h)), tabs_new T.hT h⟩
theorem KS.lay {x : Addr} (o : HO) (T : KS d A0 B0 TT p ps evs G H) (h : H x = none) : KS d A0 B0 TT p ps evs G (upd H x o) :=
  ⟨T.S.lay o h, T.hp, T.hev, tabs_new T.hT h⟩
theorem KS.call {G' H' : Hp} (T : KS d A0 B0 TT p ps evs G H) (g : Go (· = d) G H G' H') (hD : Dr G' H' d) : KS d A0 B0 TT p ps evs G' H' :=
  ⟨T.S.call g hD, g.up _ _ T.hp, T.hev.up g.up, tabs_go T.hT T.S.dr g⟩
theorem KS.pure {H' : Hp} (T : KS d A0 B0 TT p ps evs G H) (g : Go (fun _ => False) G H G H') : KS d A0 B0 TT p ps evs G H' :=
  ⟨T.S.pure g, T.hp, T.hev, T.hT.ext (go_ex g)⟩
theorem KS.cat {K : PySem.W.Frag} {a b : Addr} {xs ys : List V} {Q : VK} (T : KS d A0 B0 TT p ps evs G H) (ha : G a = some (.tup xs)) (hb : G b = some (.tup ys)) (hz : xs.length + ys.length ≤ 1000)
    (q : ∀ (c : Addr) (G1 H1 : Hp), KS d A0 B0 TT p ps evs G1 H1 → Ex G G1 → G1 c = some (.tup (xs ++ ys)) → Q (.ref c) H1) : rCatA K (.ref a) (.ref b) H Q :=
  cat_s T.S ha hb hz fun c G1 H1 S1 x1 y1 hc => q c G1 H1 ⟨S1, x1 _ _ T.hp, T.hev.up x1, T.hT.ext y1⟩ x1 hc
theorem KS.clean (T : KS d A0 B0 TT p ps evs G H) : KS d (Rt.clean G) H TT p ps evs (Rt.clean G) H :=
  ⟨Sd.here (clean_ex T.S.ex) (clean_dr T.S.dr), clean_at T.hp (fun ps z => nomatch z), ⟨T.hev.1, fun i q xs h1 h2 => clean_at (T.hev.2 i q xs h1 h2) (fun ps z => nomatch z)⟩, T.hT⟩
end
def EvK (xs : List V) : Prop := Okx xs ∧ ∃ t ys, xs = .int t :: ys ∧ 0 ≤ t ∧ t ≤ 999999

/-- the settled heap, said less -/
theorem Go.weak {m : Addr → Prop} {G G' H H' : Hp} (g : Go m G H G' H') : Go m G H G H' := ⟨Ex.refl _, g.up.trans g.inn, fun _ _ h => h, g.keep, g.there⟩
theorem take_snoc {α : Type} {l : List α} {i : Nat} {x : α} (h : l[i]? = some x) : l.take (i + 1) = l.take i ++ [x] := by
  rw [List.take_add_one, h]
  rfl
theorem at_last {xs : List V} {z : Int} {j : Nat} {v : V} (e : z = -1) (h : xs[j]? = some v) (hj : j + 1 = xs.length) : atI xs z = some v := by
  subst e
  unfold atI ixN
  rw [if_neg (by decide), if_pos (by omega)]
  show xs[((-1 : Int) + (xs.length : Int)).toNat]? = some v
  rw [show ((-1 : Int) + (xs.length : Int)).toNat = j by omega, h]
theorem EvK.okx {xs : List V} (h : EvK xs) : Okx xs := h.1
end Rt

namespace Rt
open PySem PySem.Spec PyProof.Rows L2
/-! ### min(ns, default=d), max(ns, default=d) of a list of numbers -/
def rMinD (K : PySem.W.Frag) : List V → List V → Hp → VK → Prop := fun vs zs H Q => ∃ (a : Addr) (ns : List Int) (z : V), vs = [.ref a] ∧ zs = [z] ∧ SqL K H a (ns.map V.int) ∧ (ns = [] → Q z H) ∧ ∀ m, m ∈ ns → (∀ x ∈ ns, m ≤ x) → Q (.int m) H
def rMaxD (K : PySem.W.Frag) : List V → List V → Hp → VK → Prop := fun vs zs H Q => ∃ (a : Addr) (ns : List Int) (z : V), vs = [.ref a] ∧ zs = [z] ∧ SqL K H a (ns.map V.int) ∧ (ns = [] → Q z H) ∧ ∀ m, m ∈ ns → (∀ x ∈ ns, x ≤ m) → Q (.int m) H
theorem ckMin {X : Cx} (hc : X.calm = true) : CallRK X (.builtin "min") ["default"] (rMinD X.K) := by
  intro pins s σ H vs zs us ws Q I rx rz h
  obtain ⟨a, ns, z, rfl, rfl, hs, q0, q1⟩ := h
  obtain ⟨items, rv, hl, _⟩ := I.list hs
  rw [Vals.ref1 rx]
  cases rz with
  | cons r1 r2 =>
    cases r2
    have hi := rv.ints
    obtain ⟨xs, ex⟩ := hi.allInts.items
    have hn : numsOf (intItems xs).toList = ns := by
      rw [← ex]
      exact hi.numsOf
    rw [nums_intItems] at hn
    have hL := hl.isList
    rw [ex] at hL
    refine PySem.call_min_walkD (PySem.W.iter_listW (I.ok.hd hc) hL fun s2 e2 W st hfp hw hk => ?_)
    refine ⟨_, _, _, _, _, _, _, s.heap, fun i j => decide (numAt xs i < numAt xs j), rfl, W, st, hfp, hw, hk, fun n0 s' hm => ?_, fun n1 => ⟨fun i j vi vj s Q E _ hi hj hq => CmpOf.ints_lt (numAt xs) (fun _ _ => intItems_at) i j vi vj s Q E hi hj hq, fun v s' hP hm => ?_⟩⟩
    · obtain ⟨h', tk, rfl, old⟩ := PySem.W.moved_old e2 rfl hm
      refine ⟨z, H, I.kept old, r1, q0 ?_⟩
      subst hn
      have : xs.size = 0 := by simpa [intItems] using n0
      apply List.eq_nil_of_length_eq_zero
      rw [List.length_map, Array.length_toList, this]
    · obtain ⟨h', tk, rfl, old⟩ := PySem.W.moved_old e2 rfl hm
      obtain ⟨t, rfl⟩ := intItems_at hP
      have hsz : 0 < xs.size := by simpa [intItems] using n1
      obtain ⟨c1, c2⟩ := argBest_lt (numAt xs) (xs.size - 1)
      subst hn
      have es : (intItems xs).size = xs.size := by simp [intItems]
      rw [es]
      refine ⟨.int _, H, I.kept old, ⟨_, rfl⟩, q1 _ ?_ fun b hb => ?_⟩
      · rw [numAt_eq]
        refine PySem.getD_mem ?_
        simp only [List.length_map, Array.length_toList]
        omega
      · obtain ⟨j, hj, rfl⟩ := mem_getD hb
        simp only [List.length_map, Array.length_toList] at hj
        rw [← numAt_eq]
        exact c2 j (by omega)
theorem ckMax {X : Cx} (hc : X.calm = true) : CallRK X (.builtin "max") ["default"] (rMaxD X.K) := by
  intro pins s σ H vs zs us ws Q I rx rz h
  obtain ⟨a, ns, z, rfl, rfl, hs, q0, q1⟩ := h
  obtain ⟨items, rv, hl, _⟩ := I.list hs
  rw [Vals.ref1 rx]
  cases rz with
  | cons r1 r2 =>
    cases r2
    have hi := rv.ints
    obtain ⟨xs, ex⟩ := hi.allInts.items
    have hn : numsOf (intItems xs).toList = ns := by
      rw [← ex]
      exact hi.numsOf
    rw [nums_intItems] at hn
    have hL := hl.isList
    rw [ex] at hL
    refine PySem.call_max_walkD (PySem.W.iter_listW (I.ok.hd hc) hL fun s2 e2 W st hfp hw hk => ?_)
    refine ⟨_, _, _, _, _, _, _, s.heap, fun i j => decide (numAt xs i > numAt xs j), rfl, W, st, hfp, hw, hk, fun n0 s' hm => ?_, fun n1 => ⟨fun i j vi vj s Q E _ hi hj hq => CmpOf.ints_gt (numAt xs) (fun _ _ => intItems_at) i j vi vj s Q E hi hj hq, fun v s' hP hm => ?_⟩⟩
    · obtain ⟨h', tk, rfl, old⟩ := PySem.W.moved_old e2 rfl hm
      refine ⟨z, H, I.kept old, r1, q0 ?_⟩
      subst hn
      have : xs.size = 0 := by simpa [intItems] using n0
      apply List.eq_nil_of_length_eq_zero
      rw [List.length_map, Array.length_toList, this]
    · obtain ⟨h', tk, rfl, old⟩ := PySem.W.moved_old e2 rfl hm
      obtain ⟨t, rfl⟩ := intItems_at hP
      have hsz : 0 < xs.size := by simpa [intItems] using n1
      obtain ⟨c1, c2⟩ := argBest_gt (numAt xs) (xs.size - 1)
      subst hn
      have es : (intItems xs).size = xs.size := by simp [intItems]
      rw [es]
      refine ⟨.int _, H, I.kept old, ⟨_, rfl⟩, q1 _ ?_ fun b hb => ?_⟩
      · rw [numAt_eq]
        refine PySem.getD_mem ?_
        simp only [List.length_map, Array.length_toList]
        omega
      · obtain ⟨j, hj, rfl⟩ := mem_getD hb
        simp only [List.length_map, Array.length_toList] at hj
        rw [← numAt_eq]
        exact c2 j (by omega)
end Rt

namespace Rt
open PySem PySem.Spec PyProof.Rows L2 RZ TL LamX
/-! ### events as a type -/
inductive Evt where
  | key (on : Bool) (t c k f : Int)
  | knob (t c k v : Int)
  | voice (t c v : Int)
  | mark (t : Int) (s : Str)
def Evt.word : Evt → Str
  | .key true .. => "on"
  | .key false .. => "off"
  | .knob .. => "knob"
  | .voice .. => "voice"
  | .mark .. => "mark"
def onW (b : Bool) : Str := if b then "on" else "off"
def Evt.v : Evt → List V
  | .key b t c k f => [.int t, .str (onW b), .int c, .int k, .int f]
  | .knob t c k v => [.int t, .str "knob", .int c, .int k, .int v]
  | .voice t c v => [.int t, .str "voice", .int c, .int v]
  | .mark t s => [.int t, .str "mark", .str s]
def Evt.tick : Evt → Int
  | .key _ t .. => t
  | .knob t .. => t
  | .voice t .. => t
  | .mark t _ => t
def low (b : Bool) : Int := if b then 1 else 0
def Evt.Ok : Evt → Prop
  | .key b t c k f => (0 ≤ t ∧ t ≤ 999999) ∧ (0 ≤ c ∧ c ≤ 15) ∧ (0 ≤ k ∧ k ≤ 127) ∧ (low b ≤ f ∧ f ≤ 127)
  | .knob t c k v => (0 ≤ t ∧ t ≤ 999999) ∧ (0 ≤ c ∧ c ≤ 15) ∧ (0 ≤ k ∧ k ≤ 127) ∧ (0 ≤ v ∧ v ≤ 127)
  | .voice t c v => (0 ≤ t ∧ t ≤ 999999) ∧ (0 ≤ c ∧ c ≤ 15) ∧ (0 ≤ v ∧ v ≤ 127)
  | .mark t s => (0 ≤ t ∧ t ≤ 999999) ∧ s.length ≤ 12 ∧ ∀ c ∈ s.cps.toList, c ∈ signsS.cps.toList
theorem Evt.tick_v (e : Evt) : tickOf e.v = e.tick := by cases e <;> rfl
theorem Evt.Ok.tk {e : Evt} (h : e.Ok) : 0 ≤ e.tick ∧ e.tick ≤ 999999 := by cases e <;> exact h.1
theorem win_inv {v : V} {lo hi : Int} (h : withinV v lo hi = true) : ∃ z, v = .int z ∧ lo ≤ z ∧ z ≤ hi := by
  cases v with
  | int z =>
    have h' : (decide (lo ≤ z) && decide (z ≤ hi)) = true := h
    rw [Bool.and_eq_true] at h'
    exact ⟨z, rfl, of_decide_eq_true h'.1, of_decide_eq_true h'.2⟩
  | _ => exact absurd h (by simp [withinV])
theorem winAll3 {r : List V} {b1 b2 b3 : Int × Int} (h : withinAll r [b1, b2, b3] = true) : ∃ x y z, r = [.int x, .int y, .int z] ∧ (b1.1 ≤ x ∧ x ≤ b1.2) ∧ (b2.1 ≤ y ∧ y ≤ b2.2) ∧ (b3.1 ≤ z ∧ z ≤ b3.2) := by
  match r, h with
  | [u, v, w], h =>
    have h' : (withinV u b1.1 b1.2 && (withinV v b2.1 b2.2 && (withinV w b3.1 b3.2 && true))) = true := h
    simp only [Bool.and_eq_true] at h'
    obtain ⟨x, rfl, hx⟩ := win_inv h'.1
    obtain ⟨y, rfl, hy⟩ := win_inv h'.2.1
    obtain ⟨z, rfl, hz⟩ := win_inv h'.2.2.1
    exact ⟨x, y, z, rfl, hx, hy, hz⟩
  | [], h => nomatch h
  | [u], h => exact absurd h (by simp [withinAll])
  | [u, v], h => exact absurd h (by simp [withinAll])
  | u :: v :: w :: y :: r, h => exact absurd h (by simp [withinAll])
theorem winAll2 {r : List V} {b1 b2 : Int × Int} (h : withinAll r [b1, b2] = true) : ∃ x y, r = [.int x, .int y] ∧ (b1.1 ≤ x ∧ x ≤ b1.2) ∧ (b2.1 ≤ y ∧ y ≤ b2.2) := by
  match r, h with
  | [u, v], h =>
    have h' : (withinV u b1.1 b1.2 && (withinV v b2.1 b2.2 && true)) = true := h
    simp only [Bool.and_eq_true] at h'
    obtain ⟨x, rfl, hx⟩ := win_inv h'.1
    obtain ⟨y, rfl, hy⟩ := win_inv h'.2.1
    exact ⟨x, y, rfl, hx, hy⟩
  | [], h => nomatch h
  | [u], h => exact absurd h (by simp [withinAll])
  | u :: v :: w :: r, h => exact absurd h (by simp [withinAll])
theorem thing_head : ∀ {r : List V}, thingOk r = true → ∃ w r', r = .str w :: r'
  | .str w :: r', _ => ⟨w, r', rfl⟩
  | [], h => nomatch h
  | .non :: _, h => nomatch h
  | .bl _ :: _, h => nomatch h
  | .int _ :: _, h => nomatch h
  | .ref _ :: _, h => nomatch h
  | .byt _ :: _, h => nomatch h
theorem text_inv {v : V} (h : textOk v = true) : ∃ s, v = .str s ∧ s.length ≤ 12 ∧ ∀ c ∈ s.cps.toList, c ∈ signsS.cps.toList := by
  cases v with
  | str s =>
    have h3' : (decide (s.length ≤ 12) && s.cps.toList.all (fun c => decide (c ∈ signsS.cps.toList))) = true := h
    rw [Bool.and_eq_true] at h3'
    exact ⟨s, rfl, of_decide_eq_true h3'.1, fun c hc => of_decide_eq_true (List.all_eq_true.mp h3'.2 c hc)⟩
  | _ => cases h
theorem mark_inv : ∀ {r : List V}, markOk r = true → ∃ s, r = [.str s] ∧ s.length ≤ 12 ∧ ∀ c ∈ s.cps.toList, c ∈ signsS.cps.toList
  | [v], h => by
    obtain ⟨s, rfl, h2⟩ := text_inv (v := v) h
    exact ⟨s, rfl, h2⟩
  | [], h => nomatch h
  | _ :: _ :: _, h => nomatch h
/-- a good event is one of the five -/
theorem good_evt {xs : List V} (h : isEv xs = true) : ∃ e : Evt, xs = e.v ∧ e.Ok := by
  match xs, h with
  | t :: r, h =>
    have h' : (withinV t 0 999999 && thingOk r) = true := h
    rw [Bool.and_eq_true] at h'
    obtain ⟨t, rfl, ht⟩ := win_inv h'.1
    obtain ⟨w, r, rfl⟩ := thing_head h'.2
    have h2 := h'.2
    · by_cases hw : w = "mark"
      · subst hw
        rw [thing_mark] at h2
        obtain ⟨s, rfl, h3, h4⟩ := mark_inv h2
        exact ⟨.mark t s, rfl, ht, h3, h4⟩
      · rw [thing_word hw] at h2
        unfold wordB at h2
        by_cases e1 : w = "on"
        · rw [if_pos e1] at h2
          obtain ⟨x, y, z, rfl, hx, hy, hz⟩ := winAll3 h2
          exact ⟨.key true t x y z, by rw [e1]; rfl, ht, hx, hy, hz⟩
        rw [if_neg e1] at h2
        by_cases e2 : w = "off"
        · rw [if_pos e2] at h2
          obtain ⟨x, y, z, rfl, hx, hy, hz⟩ := winAll3 h2
          exact ⟨.key false t x y z, by rw [e2]; rfl, ht, hx, hy, hz⟩
        rw [if_neg e2] at h2
        by_cases e3 : w = "knob"
        · rw [if_pos e3] at h2
          obtain ⟨x, y, z, rfl, hx, hy, hz⟩ := winAll3 h2
          exact ⟨.knob t x y z, by rw [e3]; rfl, ht, hx, hy, hz⟩
        rw [if_neg e3] at h2
        by_cases e4 : w = "voice"
        · rw [if_pos e4] at h2
          obtain ⟨x, y, rfl, hx, hy⟩ := winAll2 h2
          exact ⟨.voice t x y, by rw [e4]; rfl, ht, hx, hy⟩
        rw [if_neg e4] at h2
        cases h2
theorem okx_of_good {xs : List V} (h : GoodEv xs) : Okx xs := h.2.1
/-- a track of good events -/
theorem good_evts : ∀ {evs : List (List V)}, (∀ xs ∈ evs, GoodEv xs) → ∃ es : List Evt, evs = es.map Evt.v ∧ ∀ e ∈ es, e.Ok
  | [], _ => ⟨[], rfl, fun e h => nomatch h⟩
  | x :: r, h => by
    obtain ⟨e, he, ho⟩ := good_evt (h x (.head _)).1
    obtain ⟨es, h1, h2⟩ := good_evts fun y hy => h y (.tail _ hy)
    refine ⟨e :: es, by rw [he, h1]; rfl, fun z hz => ?_⟩
    rcases List.mem_cons.mp hz with rfl | hz
    · exact ho
    · exact h2 z hz
theorem onW_ok (b : Bool) : PyData.strOk (onW b) = true ∧ (onW b).length ≤ 10 := by cases b <;> exact ⟨by decide +kernel, by decide⟩
theorem Evt.Ok.okx {e : Evt} (h : e.Ok) : Okx e.v ∧ e.v.length ≤ 5 := by
  have key : ∀ s : Str, s.length ≤ 12 → PyData.strOk s = true → Scal2 (.str s) := fun s h1 h2 => .inr ⟨s, rfl, by omega, h2⟩
  cases e with
  | key b t c k f =>
    refine ⟨⟨fun x hx => ?_, (by show 5 ≤ 100; decide)⟩, (by show 5 ≤ 5; decide)⟩
    simp only [Evt.v, List.mem_cons, List.mem_nil_iff, or_false] at hx
    rcases hx with rfl | rfl | rfl | rfl | rfl
    · exact sc2I _
    · exact key _ (Nat.le_trans (onW_ok b).2 (by decide)) (onW_ok b).1
    all_goals exact sc2I _
  | knob t c k v =>
    refine ⟨⟨fun x hx => ?_, (by show 5 ≤ 100; decide)⟩, (by show 5 ≤ 5; decide)⟩
    simp only [Evt.v, List.mem_cons, List.mem_nil_iff, or_false] at hx
    rcases hx with rfl | rfl | rfl | rfl | rfl
    · exact sc2I _
    · exact key _ (by decide) (by decide +kernel)
    all_goals exact sc2I _
  | voice t c v =>
    refine ⟨⟨fun x hx => ?_, (by show 4 ≤ 100; decide)⟩, (by show 4 ≤ 5; decide)⟩
    simp only [Evt.v, List.mem_cons, List.mem_nil_iff, or_false] at hx
    rcases hx with rfl | rfl | rfl | rfl
    · exact sc2I _
    · exact key _ (by decide) (by decide +kernel)
    all_goals exact sc2I _
  | mark t s =>
    refine ⟨⟨fun x hx => ?_, (by show 3 ≤ 100; decide)⟩, (by show 3 ≤ 5; decide)⟩
    simp only [Evt.v, List.mem_cons, List.mem_nil_iff, or_false] at hx
    rcases hx with rfl | rfl | rfl
    · exact sc2I _
    · exact key _ (by decide) (by decide +kernel)
    · exact key s h.2.1 (strOk_signs h.2.2)
theorem evs_at {G : Hp} {ps : List Addr} {es : List Evt} (h : Evs G ps (es.map Evt.v)) {i : Nat} {x : V} (hx : (ps.map V.ref)[i]? = some x) : ∃ p e, x = .ref p ∧ ps[i]? = some p ∧ es[i]? = some e ∧ G p = some (.tup e.v) := by
  have hil : i < ps.length := by
    have := (List.getElem?_eq_some_iff.mp hx).1
    rwa [List.length_map] at this
  have hl : ps.length = es.length := by rw [h.1, List.length_map]
  obtain ⟨p, xs, hp, hxs, hpx⟩ := h.at_ (i := i) (by rw [List.length_map]; omega)
  have he : es[i]? = some es[i] := List.getElem?_eq_getElem (by omega)
  rw [List.getElem?_map, he] at hxs
  cases hxs
  rw [map_ref hp] at hx
  exact ⟨p, es[i], (Option.some.inj hx).symm, hp, he, hpx⟩
theorem Evs.len {G : Hp} {ps : List Addr} {es : List Evt} (h : Evs G ps (es.map Evt.v)) : ps.length = es.length := by rw [h.1, List.length_map]
/-- is it an on or an off -/
def Evt.isKey : Evt → Bool
  | .key .. => true
  | _ => false
theorem in_onoff (e : Evt) : inV (e.v.getD 1 .non) [.str "on", .str "off"] = e.isKey := by
  cases e with
  | key b t c k f =>
    cases b
    · show inV (.str "off") [.str "on", .str "off"] = true; decide +kernel
    · show inV (.str "on") [.str "on", .str "off"] = true; decide +kernel
  | knob t c k v => show inV (.str "knob") [.str "on", .str "off"] = false; decide +kernel
  | voice t c v => show inV (.str "voice") [.str "on", .str "off"] = false; decide +kernel
  | mark t s => show inV (.str "mark") [.str "on", .str "off"] = false; decide +kernel
end Rt

namespace Rt
open PySem PySem.Spec PyProof.Rows L2 PySem.W
/-! ### a, *b = a list -/
theorem star1 {prog : Program} {w : World} {A : Around} {E : Value → Shared → Prop} {s : Shared} {l : Addr} {items : Array Value} {Q : List Value → Shared → Prop} (hl : s.heap.IsList l items) (hh : A.handled = none) (hn : 1 ≤ items.size) (hz : items.size ≤ sizeLine)
    (h : ∀ (h' : Heap) tk, (∀ b o, s.heap.get? b = some o → h'.get? b = some o) →
      Q (items.toList.take 1 ++ [.ref h'.objs.size] ++ []) { s with heap := h'.push { cls := .type "list", data := .seq (items.toList.drop 1).toArray }, toks := tk }) : wpAny (model prog w) A (unpackItems (.ref l) 2 (some 1)) Q E s := by
  have lt : l < s.heap.objs.size := let ⟨o, ho, _⟩ := hl; Heap.lt_size ho
  have ne : l ≠ s.heap.objs.size := Nat.ne_of_lt lt
  unfold unpackItems notIterableAtAll
  refine wpAny_bind (wpAny_bind (wpAny_specialOf hl.typeIs slot_list_iter.lookup (wpAny_pure ?_)))
  simp only [Bool.false_eq_true, if_false]
  refine wpAny_bind (wpAny_holding (wpAny_pyIter_list hl (wpAny_bind (wpAny_holding (kun_draw ne 1 0 _ _ ⟨_, Heap.get?_push_size _ rfl, rfl, rfl⟩ (hl.push _) (by omega) fun g hit sb => ?_)))))
  have hg : g.IsList l items := (hl.push _).extBut sb.extBut ne
  rw [Nat.zero_add] at hit
  have ltI : s.heap.objs.size < g.objs.size := let ⟨_, e, _⟩ := id hit; Heap.lt_size e
  have ltl : l < g.objs.size := let ⟨_, e, _⟩ := id hg; Heap.lt_size e
  rw [List.drop_zero]
  have l1 : (items.toList.take 1).length = 1 := by rw [List.length_take, Array.length_toList]; omega
  rw [l1, if_neg (Nat.lt_irrefl 1)]
  refine wpAny_bind (wpAny_holding (kun_collect (s := { s with heap := g }) (T := "list_iterator") (.inr (.inr (.inl rfl))) (Walks.list (A := A.in1) hh s.heap.objs.size l ne items) (fun j u st => st.1.typeIs) (k := 1) hn ⟨hit, hg⟩ ltI ltl (fun g2 tk hk => ?_) hz))
  show wpAny _ _ (if (items.toList.drop 1).length < 0 then _ else _) _ _ _
  rw [if_neg (Nat.not_lt_zero _)]
  show wpAny _ _ (newList ((items.toList.drop 1).take ((items.toList.drop 1).length - 0)) >>= fun d => pure (items.toList.take 1 ++ [d] ++ (items.toList.drop 1).drop ((items.toList.drop 1).length - 0))) _ _ _
  rw [Nat.sub_zero, List.take_length, List.drop_length]
  have old : ∀ b o, s.heap.get? b = some o → g2.get? b = some o := fun b o e => hk b o (Nat.ne_of_lt (Heap.lt_size e)) (sb.extBut b o (Nat.ne_of_lt (Heap.lt_size e)) (Heap.get?_push_of_some _ e))
  exact wpAny_bind (wpAny_newList (wpAny_pure (h g2 tk old)) (by rw [List.length_drop, Array.length_toList]; omega))
def gStar (K : PySem.W.Frag) (t : TGs) : TG := fun v σ H Q => ∃ (a : Addr) (x : V) (xs : List V), v = .ref a ∧ SqL K H a (x :: xs) ∧ ∀ D, H D = none → t [x, .ref D] σ (upd H D (.lst xs)) Q
section
variable {X : Cx} {e e2 : Expr} {es : List Expr} {k : Nat} {pos p2 : Pos} {t : TGs} {g : TG} {u : TGs}
theorem pgs_star (h1 : PG X e g) (h2 : PGs X es u) : PGs X (.Starred e p2 :: es) (gCons g u) := by
  refine ⟨fun pins s σ H vs us Q I r hw => ?_⟩
  obtain ⟨v, vr, rfl, hw⟩ := hw
  cases r with
  | cons r rr => exact assignInOrder_cons (thn (h1.run pins s σ H _ _ _ I r hw) fun _ s1 ⟨σ1, H1, I1, q1⟩ => h2.run pins s1 σ1 H1 _ _ Q I1 rr q1)
theorem pg_star (hc : X.calm = true) (h : PGs X es t) (hn : (assignEach es X.env).length = 2 := by rfl) (hst : (assignEach es X.env).findIdx? (·.1) = some 1 := by rfl) : PG X (.Tuple es k pos) (gStar X.K t) := by
  refine ⟨fun pins s σ H v u Q I r hw => ?_⟩
  obtain ⟨a, x, xs, rfl, hq, hw⟩ := hw
  cases r
  obtain ⟨its, rv, hl, hz⟩ := I.list hq
  have ln := rv.length
  rw [assign_Tuple]
  refine wpAny_bind (wpAny_standAt ?_)
  unfold unpack
  rw [hn, hst]
  refine wpAny_bind (wpAny_holding (star1 hl.isList (I.ok.hd hc) (by rw [List.size_toArray, ← ln]; exact Nat.succ_pos _) (by rw [List.size_toArray, ← ln]; exact hz) fun h' tk old => ?_))
  have I2 := I.kept (t' := tk) old
  cases rv with
  | cons r1 r2 =>
    have nD : H h'.objs.size = none := I2.hok.fresh (Nat.le_refl _)
    have I3 := I2.laid (t' := tk) (a := h'.objs.size) (o := .lst xs) (fun b o e => Heap.get?_push_of_some _ e) (Nat.le_refl _) ⟨Nat.le_trans (Nat.le_succ _) hz, _, 0, r2, Heap.get?_push_size _ rfl⟩
    exact h.run pins _ σ _ [x, .ref h'.objs.size] _ Q I3 (.cons r1 (.cons rfl .nil)) (hw _ nD)
end
end Rt

namespace Rt
open PySem PySem.Spec PyProof.Rows L2 RZ TL LamX
/-! ### heads and forms -/
abbrev Fm := Int × List Int
def Evt.forms : Evt → List Fm
  | .key true _ c k f => [(144 + c, [k, f])]
  | .key false _ c k f => (128 + c, [k, f]) :: (if f = 64 then [(144 + c, [k, 0])] else [])
  | .knob _ c k v => [(160 + c, [k, v])]
  | .voice _ c v => [(176 + c, [v])]
  | .mark _ s => [(240, (s.length : Int) :: s.cps.toList.map fun (c : Nat) => (c : Int))]
def left (h : Int) : Int := if h = 240 then 0 else h
def hcost (a h : Int) : Int := if h = a then 0 else 1
def headsOf (e : Evt) : List Int := e.forms.map fun f => left f.1
def headsAt (es : List Evt) (i : Nat) : List Int := match i with
  | 0 => [0]
  | i + 1 => match es[i]? with
    | some e => headsOf e
    | none => []
theorem forms_len (e : Evt) : 1 ≤ e.forms.length ∧ e.forms.length ≤ 2 := by
  cases e with
  | key b t c k f =>
    cases b with
    | true => exact ⟨by show 1 ≤ 1; decide, by show 1 ≤ 2; decide⟩
    | false =>
      show 1 ≤ ((128 + c, [k, f]) :: (if f = 64 then [(144 + c, [k, 0])] else [])).length ∧ ((128 + c, [k, f]) :: (if f = 64 then [(144 + c, [k, 0])] else [])).length ≤ 2
      split
      · exact ⟨by show 1 ≤ 2; decide, by show 2 ≤ 2; decide⟩
      · exact ⟨by show 1 ≤ 1; decide, by show 1 ≤ 2; decide⟩
  | _ => exact ⟨by show 1 ≤ 1; decide, by show 1 ≤ 2; decide⟩
theorem headsAt_len (es : List Evt) (i : Nat) : (headsAt es i).length ≤ 2 := by
  match i with
  | 0 => show 1 ≤ 2; decide
  | i + 1 =>
    show (match es[i]? with | some e => headsOf e | none => []).length ≤ 2
    split
    · unfold headsOf
      rw [List.length_map]
      exact (forms_len _).2
    · exact Nat.zero_le _
/-- one form, at r: (head, data) -/
def FmOne (G : Hp) (r : Addr) (f : Fm) : Prop := ∃ b, G r = some (.tup [.int f.1, .ref b]) ∧ G b = some (.lst (f.2.map V.int))
/-- a list of forms, at p -/
structure FmAt (G : Hp) (p : Addr) (rs : List Addr) (fs : List Fm) : Prop where
  hp : G p = some (.lst (rs.map V.ref))
  ln : rs.length = fs.length
  at_ : ∀ (i : Nat) (r : Addr) (f : Fm), rs[i]? = some r → fs[i]? = some f → FmOne G r f
theorem FmOne.up {G G' : Hp} {r : Addr} {f : Fm} (h : FmOne G r f) (x : Ex G G') : FmOne G' r f := by
  obtain ⟨b, h1, h2⟩ := h
  exact ⟨b, x _ _ h1, x _ _ h2⟩
theorem FmAt.up {G G' : Hp} {p : Addr} {rs : List Addr} {fs : List Fm} (h : FmAt G p rs fs) (x : Ex G G') : FmAt G' p rs fs := ⟨x _ _ h.hp, h.ln, fun i r f h1 h2 => (h.at_ i r f h1 h2).up x⟩
theorem FmAt.one {G : Hp} {p r b : Addr} {h : Int} {d : List Int} (hp : G p = some (.lst [.ref r])) (hr : G r = some (.tup [.int h, .ref b])) (hb : G b = some (.lst (d.map V.int))) : FmAt G p [r] [(h, d)] :=
  ⟨hp, rfl, fun i r' f h1 h2 => by
    match i, h1, h2 with
    | 0, h1, h2 =>
      cases h1
      cases h2
      exact ⟨b, hr, hb⟩
    | i + 1, h1, _ => simp at h1⟩
theorem FmAt.two {G : Hp} {p r b r2 b2 : Addr} {h h2 : Int} {d d2 : List Int} (hp : G p = some (.lst [.ref r, .ref r2])) (hr : G r = some (.tup [.int h, .ref b])) (hb : G b = some (.lst (d.map V.int))) (hr2 : G r2 = some (.tup [.int h2, .ref b2])) (hb2 : G b2 = some (.lst (d2.map V.int))) : FmAt G p [r, r2] [(h, d), (h2, d2)] :=
  ⟨hp, rfl, fun i r' f h1 h2 => by
    match i, h1, h2 with
    | 0, h1, h2 =>
      cases h1
      cases h2
      exact ⟨b, hr, hb⟩
    | 1, h1, h2 =>
      cases h1
      cases h2
      exact ⟨b2, hr2, hb2⟩
    | i + 2, h1, _ => simp at h1⟩
/-- the written table of heads -/
structure HeadsK (K : PySem.W.Frag) (w : World) (d : Addr) : Prop where
  off : KDct K w d "off" (.int 128)
  on : KDct K w d "on" (.int 144)
  knob : KDct K w d "knob" (.int 160)
  voice : KDct K w d "voice" (.int 176)
  mark : KDct K w d "mark" (.int 240)
theorem heads_mk {K : PySem.W.Frag} {w : World} {d : Addr} {n : Nat} {h1 h2 h3 h4 h5 : Int} {t1 t2 t3 t4 t5 u1 u2 u3 u4 u5 : Tok}
    (l : K.lookup d = some ⟨.type "dict", none, .dict #[⟨h1, .str "off" t1, .int 128 u1⟩, ⟨h2, .str "on" t2, .int 144 u2⟩, ⟨h3, .str "knob" t3, .int 160 u3⟩, ⟨h4, .str "voice" t4, .int 176 u4⟩, ⟨h5, .str "mark" t5, .int 240 u5⟩] n, #[]⟩)
    (k1 : h1 = PyData.keyHash w.params "off") (k2 : h2 = PyData.keyHash w.params "on") (k3 : h3 = PyData.keyHash w.params "knob") (k4 : h4 = PyData.keyHash w.params "voice") (k5 : h5 = PyData.keyHash w.params "mark")
    (n1 : PySem.W.nsIn K d "off" = some (some (.int 128 u1))) (n2 : PySem.W.nsIn K d "on" = some (some (.int 144 u2))) (n3 : PySem.W.nsIn K d "knob" = some (some (.int 160 u3))) (n4 : PySem.W.nsIn K d "voice" = some (some (.int 176 u4))) (n5 : PySem.W.nsIn K d "mark" = some (some (.int 240 u5))) : HeadsK K w d := by
  have ks : PySem.W.KeysLit w.params [(⟨h1, .str "off" t1, .int 128 u1⟩ : DictEntry), ⟨h2, .str "on" t2, .int 144 u2⟩, ⟨h3, .str "knob" t3, .int 160 u3⟩, ⟨h4, .str "voice" t4, .int 176 u4⟩, ⟨h5, .str "mark" t5, .int 240 u5⟩] := ⟨⟨_, _, rfl, k1⟩, ⟨_, _, rfl, k2⟩, ⟨_, _, rfl, k3⟩, ⟨_, _, rfl, k4⟩, ⟨_, _, rfl, k5⟩, True.intro⟩
  exact ⟨⟨_, n, _, l, ks, n1, ⟨_, rfl⟩⟩, ⟨_, n, _, l, ks, n2, ⟨_, rfl⟩⟩, ⟨_, n, _, l, ks, n3, ⟨_, rfl⟩⟩, ⟨_, n, _, l, ks, n4, ⟨_, rfl⟩⟩, ⟨_, n, _, l, ks, n5, ⟨_, rfl⟩⟩⟩
/-- numbers by numbers, in a dict -/
def DictI (G : Hp) (a : Addr) (f : Int → Option Int) : Prop := ∃ kvs : List (Key × V), G a = some (.dK kvs) ∧ ∀ k, valV kvs (.inl k) = (f k).map V.int
theorem DictI.up {G G' : Hp} {a : Addr} {f : Int → Option Int} (h : DictI G a f) (x : Ex G G') : DictI G' a f := let ⟨k, h1, h2⟩ := h; ⟨k, x _ _ h1, h2⟩
theorem DictI.get {G : Hp} {a : Addr} {f : Int → Option Int} {k v : Int} (h : DictI G a f) (e : f k = some v) : DGet G a (.int k) (some (.int v)) := by
  obtain ⟨kvs, h1, h2⟩ := h
  have := DGet.k (k := Sum.inl k) h1
  rw [h2 k, e] at this
  exact this
/-- a form's cost -/
def fcost (a : Int) (f : Int → Int) (x : Fm) : Int := hcost a x.1 + (x.2.length : Int) + f (left x.1)
/-- the first cheapest -/
def bestF (c : Fm → Int) : List Fm → Fm
  | [] => (0, [])
  | x :: xs => xs.foldl (fun b y => if c y < c b then y else b) x
theorem foldl_min (c : Fm → Int) : ∀ (xs : List Fm) (x : Fm), (xs.foldl (fun b y => if c y < c b then y else b) x ∈ x :: xs) ∧ c (xs.foldl (fun b y => if c y < c b then y else b) x) ≤ c x ∧ ∀ y ∈ xs, c (xs.foldl (fun b y => if c y < c b then y else b) x) ≤ c y
  | [], x => ⟨.head _, Int.le_refl _, fun y h => nomatch h⟩
  | z :: xs, x => by
    have ih := foldl_min c xs (if c z < c x then z else x)
    rw [List.foldl_cons]
    have h1 : c (if c z < c x then z else x) ≤ c x := by split <;> omega
    have h2 : c (if c z < c x then z else x) ≤ c z := by split <;> omega
    refine ⟨?_, Int.le_trans ih.2.1 h1, fun y hy => ?_⟩
    · rcases List.mem_cons.mp ih.1 with e | e
      · rw [e]
        split
        · exact .tail _ (.head _)
        · exact .head _
      · exact .tail _ (.tail _ e)
    · rcases List.mem_cons.mp hy with rfl | hy
      · exact Int.le_trans ih.2.1 h2
      · exact ih.2.2 y hy
theorem bestF_in (c : Fm → Int) {fs : List Fm} (h : 0 < fs.length) : bestF c fs ∈ fs ∧ ∀ y ∈ fs, c (bestF c fs) ≤ c y := by
  match fs, h with
  | x :: xs, _ =>
    have := foldl_min c xs x
    refine ⟨this.1, fun y hy => ?_⟩
    rcases List.mem_cons.mp hy with rfl | hy
    · exact this.2.1
    · exact this.2.2 y hy
/-- how many bytes a gap takes -/
def gapL (n : Int) : Int := ((gapB n.toNat).length : Int)
/-- the fewest bytes of the events es behind a tick and a head, the end with them -/
def pc : List Evt → Int → Int → Int
  | [], _, _ => 2
  | e :: r, t, a => gapL (e.tick - t) + fcost a (pc r e.tick) (bestF (fcost a (pc r e.tick)) e.forms)
/-- the tick ahead of a place -/
def tickAt (es : List Evt) (i : Nat) : Int := match i with
  | 0 => 0
  | i + 1 => match es[i]? with
    | some e => e.tick
    | none => 0
def pcAt (es : List Evt) (i : Nat) (a : Int) : Int := pc (es.drop i) (tickAt es i) a
def rowAt (es : List Evt) (i : Nat) : List (Int × Int) := (headsAt es i).map fun a => (a, pcAt es i a)
def rowsOf (es : List Evt) : List (List (Int × Int)) := (List.range (es.length + 1)).map (rowAt es)
theorem pcAt_step {es : List Evt} {i : Nat} {e : Evt} (h : es[i]? = some e) (a : Int) : pcAt es i a = gapL (e.tick - tickAt es i) + fcost a (pcAt es (i + 1)) (bestF (fcost a (pcAt es (i + 1))) e.forms) := by
  have hd : es.drop i = e :: es.drop (i + 1) := by
    have hl := (List.getElem?_eq_some_iff.mp h)
    obtain ⟨hl, he⟩ := hl
    rw [List.drop_eq_getElem_cons hl, he]
  have ht : tickAt es (i + 1) = e.tick := by
    show (match es[i]? with | some e => e.tick | none => 0) = _
    rw [h]
  unfold pcAt
  rw [hd, ht]
  rfl
/-- ticks that don't fall -/
def Up (es : List Evt) : Prop := ∀ i e, es[i]? = some e → tickAt es i ≤ e.tick
theorem up_of_rise {es : List Evt} (h : Rise (es.map Evt.v)) (ok : ∀ e ∈ es, e.Ok) : Up es := fun i e he => by
  match i with
  | 0 => exact (ok e (List.mem_of_getElem? he)).tk.1
  | i + 1 =>
    have hl := (List.getElem?_eq_some_iff.mp he).1
    have h0 : es[i]? = some es[i] := List.getElem?_eq_getElem (by omega)
    have := h i es[i].v e.v (by rw [List.getElem?_map, h0]; rfl) (by rw [List.getElem?_map, he]; rfl)
    rw [Evt.tick_v, Evt.tick_v] at this
    show (match es[i]? with | some e => e.tick | none => 0) ≤ _
    rw [h0]
    exact this
theorem tickAt_ok {es : List Evt} (ok : ∀ e ∈ es, e.Ok) (i : Nat) : 0 ≤ tickAt es i ∧ tickAt es i ≤ 999999 := by
  match i with
  | 0 => exact ⟨Int.le_refl 0, by show (0 : Int) ≤ 999999; decide⟩
  | i + 1 =>
    show 0 ≤ (match es[i]? with | some e => e.tick | none => 0) ∧ (match es[i]? with | some e => e.tick | none => 0) ≤ 999999
    cases h : es[i]? with
    | none => exact ⟨by decide, by decide⟩
    | some e => exact (ok e (List.mem_of_getElem? h)).tk
end Rt

namespace Rt
open PySem PySem.Spec PyProof.Rows L2 RZ TL
def topS (i : Nat) : Stmt := PySem.Challenge.pw_reedtapes_k12_whole_prices_tell_the_way.main.body.getD i (.Pass ⟨0, 0, 0, 0⟩)
section
variable {P : Program} {w : World} {K : PySem.W.Frag} {mg : Str → Option Value} {base : Heap}
abbrev s_begin : Stmt := topS 23
theorem sc_begin : FnScope ["_law_script"] ["_law_script"] (defScope s_begin) := ⟨rfl, rfl, rfl, by decide +kernel, rfl, by decide +kernel, by decide +kernel⟩
def spBegin (K : PySem.W.Frag) : Sp := fun vs H Q _ => ∃ (a : Addr) (ns : List Int) (H0 : Hp), vs = [.ref a] ∧ SqL K H a (ns.map V.int) ∧ Ex H0 H ∧
  ∀ (d : Addr) (H0' H' : Hp), Go (fun _ => False) H0 H H0' H' → Dr H0' H' d → H d = none → Q (.ref d) H'
theorem ok_begin {f : Addr} {fd : FuncData} (F : Fun K "_law_begin" "_law_begin" s_begin f fd) (m_list : mg "list" = none) : FnOk P w K mg base CX0 1 f fd ["_law_script"] (spBegin K) := by
  refine F.ok sc_begin (fun vs H Q E h => ?_) (fun cdv A outer s H vs Q E hr h => ?_)
  · obtain ⟨a, ns, H0, rfl, _⟩ := h
    rfl
  · obtain ⟨a, ns, H0, rfl, hS, e0, q⟩ := h
    refine ⟨_, (pss_one (ps_ret (pe_lst (pa_cons (pe_callTy call_list_of (by rfl) m_list bt_list (pa_cons (pe_slice sl_list (pv 0) po_none (po_some pe_int)) pa_nil)) (pa_cons pe_int (pa_cons pe_int (pa_cons pe_int (pa_cons pe_int pa_nil)))))))), ?_⟩
    obtain ⟨ms, hms⟩ : ∃ ms : List Int, cutV (ns.map V.int) none (some 63) = ms.map V.int := ⟨_, by unfold cutV; rw [← List.map_drop, ← List.map_take]⟩
    refine ⟨.ref a, rfl, 63, rfl, a, _, rfl, hS, fun c hc => ?_⟩
    refine ⟨c, _, rfl, .inl (SqL.of upd_same), fun l hl => ?_⟩
    rw [hms] at hl ⊢
    refine ⟨(by show 5 ≤ sizeLine; decide), fun d hd => ?_⟩
    have g0 := Go.refl (m := fun _ => False) e0
    have g1 := g0.lay (.lst (ms.map V.int)) hc
    have g2 := g1.put (.lst (ms.map V.int)) hl
    have g3 := g2.lay (.lst [.ref l, .int 0, .int 0, .int 1, .int 0]) hd
    have nH : H d = none := g2.fresh hd
    exact q d _ _ g3 ⟨⟨l, ms, 0, 0, 1, 0, upd_same, upd_same, by decide, by decide, by decide, by decide⟩, g2.fresh0 hd⟩ nH
abbrev s_pick : Stmt := topS 24
theorem sc_pick : FnScope ["_law_draw", "_law_many", "_law_cell", "_law_got"] ["_law_draw", "_law_many"] (defScope s_pick) := ⟨rfl, rfl, rfl, by decide +kernel, rfl, by decide +kernel, by decide +kernel⟩
def spPick : Sp := fun vs H Q _ => ∃ (d : Addr) (m : Int) (H0 : Hp), vs = [.ref d, .int m] ∧ 0 < m ∧ m ≤ 1000000000 ∧ Ex H0 H ∧ Dr H0 H d ∧
  ∀ (r : Int) (H' : Hp), 0 ≤ r → r < m → Go (· = d) H0 H H0 H' → Dr H0 H' d → Q (.int r) H'
theorem ok_pick {f : Addr} {fd : FuncData} (F : Fun K "_law_pick" "_law_pick" s_pick f fd) (m_len : mg "len" = none) : FnOk P w K mg base CX0 1 f fd ["_law_draw", "_law_many"] spPick := by
  refine F.ok sc_pick (fun vs H Q E h => ?_) (fun cdv A outer s H vs Q E hr h => ?_)
  · obtain ⟨d, m, H0, rfl, _⟩ := h
    rfl
  · obtain ⟨d, m, H0, rfl, m0, m1, e0, ⟨⟨a, ns, i, j, k, l, hd, ha, hi, hj, hk0, hk⟩, out⟩, q⟩ := h
    refine ⟨_, (C8.pss_cut (ps_if (PW.pt (pw_and (pt_cmpR op_lt (pe_ix ix_list (pv 0) pe_int (fun _ _ => rfl)) (pv 1) (nomark _)) (pw_and1 (pt_cmpR op_lt (pe_ix ix_list (pv 0) pe_int (fun _ _ => rfl)) (pe_callB call_len_seq (by rfl) m_len PySem.boot_len (pa_cons (pe_ix ix_list (pv 0) pe_int (fun _ _ => rfl)) pa_nil)) (nomark _))))) (pss_cons (ps_set (i := 2) sc_pick.nd rfl (Or.inl rfl) (pe_ix ix_list (pe_ix ix_list (pv 0) pe_int (fun _ _ => rfl)) (pe_ix ix_list (pv 0) pe_int (fun _ _ => rfl)) (fun _ _ => rfl)))
      (pss_cons (ps_asg (pe_op op_add (pe_ix ix_list (pv 0) pe_int (fun _ _ => rfl)) pe_int) (pg_sub (pv 0) pe_int set_list))
      (pss_cons (ps_asg pe_int (pg_sub (pv 0) pe_int set_list))
      (pss_one (ps_if (pt_cmpR op_ge (pv 2) (pe_op op_pow pe_int pe_int) (nomark _)) (pss_one (ps_asg (pv 2) (pg_sub (pv 0) pe_int set_list))) (pss_one (ps_asg (pe_op op_modN (pe_op op_add (pe_ix ix_list (pv 0) pe_int (fun _ _ => rfl)) (pv 2)) pe_int) (pg_sub (pv 0) pe_int set_list)))))))) pss_nil)
      (pss_cons (ps_if (pt_cmpR op_ge (pe_ix ix_list (pv 0) pe_int (fun _ _ => rfl)) (pv 1) (nomark _)) (pss_cons (ps_set (i := 3) sc_pick.nd rfl (Or.inl rfl) (pe_op op_modN (pe_ix ix_list (pv 0) pe_int (fun _ _ => rfl)) (pv 1)))
      (pss_cons (ps_asg (pe_op op_fdivN (pe_ix ix_list (pv 0) pe_int (fun _ _ => rfl)) (pv 1)) (pg_sub (pv 0) pe_int set_list))
      (pss_one (ps_ret (pv 3))))) pss_nil)
      (pss_cons (ps_asg (pe_op op_add (pe_ix ix_list (pv 0) pe_int (fun _ _ => rfl)) pe_int) (pg_sub (pv 0) pe_int set_list))
      (pss_cons (ps_asg (pe_op op_modN (pe_op op_add (pe_op op_add (pe_op op_pow (pe_ix ix_list (pv 0) pe_int (fun _ _ => rfl)) pe_int) (pe_op op_mul pe_int (pe_ix ix_list (pv 0) pe_int (fun _ _ => rfl)))) pe_int) pe_int) (pg_sub (pv 0) pe_int set_list))
      (pss_one (ps_ret (pe_op op_modN (pe_op op_fdivN (pe_ix ix_list (pv 0) pe_int (fun _ _ => rfl)) pe_int) (pv 1)))))))), ?_⟩
    have hA : H a = some (.lst (ns.map V.int)) := e0 _ _ ha
    have nda : a ≠ d := fun z => by rw [z, out] at ha; cases ha
    refine ⟨fun σ H' => ∃ (i j k : Int) (v : Option V), σ = [some (.ref d), some (.int m), v, none] ∧ H' d = some (.lst [.ref a, .int i, .int j, .int k, .int l]) ∧ 0 ≤ i ∧ 0 ≤ j ∧ 0 ≤ k ∧ k < 2000000000 ∧ Go (· = d) H0 H H0 H', ?_, ?_⟩
    · -- if draw[2] < many and draw[1] < len(draw[0])
      refine ⟨_, rfl, d, _, 2, _, rfl, rfl, SqL.of hd, at_of (j := 2) rfl rfl, _, rfl, _, _, rfl, rfl, _, rfl, ifD (fun c => ?_) (fun c => ?_)⟩
      · refine ⟨_, rfl, d, _, 1, _, rfl, rfl, SqL.of hd, at_of (j := 1) rfl rfl, _, rfl, d, _, 0, _, rfl, rfl, SqL.of hd, at_of (j := 0) rfl rfl, a, _, rfl, .inl (SqL.of hA), _, _, rfl, rfl, _, rfl, ?_⟩
        rw [List.length_map]
        refine ifD (fun c2 => ?_) (fun c2 => ?_)
        · obtain ⟨n, rfl⟩ : ∃ n : Nat, i = (n : Int) := ⟨i.toNat, by omega⟩
          have hn : n < ns.length := by omega
          have g0 := Go.refl (m := (· = d)) e0
          -- cell = draw[0][draw[1]]
          refine ⟨_, rfl, d, _, 0, _, rfl, rfl, SqL.of hd, at_of (j := 0) rfl rfl, _, rfl, d, _, 1, _, rfl, rfl, SqL.of hd, at_of (j := 1) rfl rfl, a, _, _, _, rfl, rfl, SqL.of hA, at_of (j := n) rfl (map_int (List.getElem?_eq_getElem hn)), ?_⟩
          -- draw[1] = draw[1] + 1
          refine ⟨_, rfl, d, _, 1, _, rfl, rfl, SqL.of hd, at_of (j := 1) rfl rfl, _, _, rfl, rfl, _, rfl, _, _, _, 1, rfl, rfl, hd, rfl, ?_⟩
          -- draw[2] = 0
          refine ⟨_, rfl, _, _, _, 2, rfl, rfl, upd_same, rfl, ?_⟩
          -- if cell >= 10 ** 18
          refine ⟨_, rfl, _, _, rfl, rfl, ⟨by decide, by decide, by decide⟩, _, _, rfl, rfl, _, rfl, ifD (fun c3 => ?_) (fun c3 => ?_)⟩
          · refine ⟨_, rfl, _, rfl, _, _, _, 2, rfl, rfl, upd_same, rfl, ?_⟩
            have c4 : (10 : Int) ^ (18 : Int).toNat ≤ ns[n] := c3
            exact ⟨_, ns[n], k, _, rfl, upd_same, by omega, Int.le_trans (by decide) c4, hk0, hk, ((g0.turnM _ rfl out).turnM _ rfl out).turnM _ rfl out⟩
          · refine ⟨_, rfl, d, _, 3, _, rfl, rfl, SqL.of upd_same, at_of (j := 3) rfl rfl, _, rfl, _, _, rfl, rfl, _, _, rfl, rfl, (by show (1000000007 : Int) ≠ 0; decide), _, rfl, _, _, _, 3, rfl, rfl, upd_same, rfl, ?_⟩
            have f0 := Int.fmod_nonneg_of_pos (k + ns[n]) (show (0 : Int) < 1000000007 by decide)
            have f1 := Int.fmod_lt_of_pos (k + ns[n]) (show (0 : Int) < 1000000007 by decide)
            exact ⟨_, 0, _, _, rfl, upd_same, by omega, by decide, f0, by omega, ((g0.turnM _ rfl out).turnM _ rfl out).turnM _ rfl out⟩
        · exact ⟨i, j, k, none, rfl, hd, hi, hj, hk0, hk, Go.refl e0⟩
      · exact ⟨i, j, k, none, rfl, hd, hi, hj, hk0, hk, Go.refl e0⟩
    · rintro σ' H' ⟨i, j, k, v, rfl, hd, hi, hj, hk0, hk, g⟩
      -- if draw[2] >= many
      refine ⟨_, rfl, d, _, 2, _, rfl, rfl, SqL.of hd, at_of (j := 2) rfl rfl, _, rfl, _, _, rfl, rfl, _, rfl, ifD (fun c => ?_) (fun c => ?_)⟩
      · refine ⟨_, rfl, d, _, 2, _, rfl, rfl, SqL.of hd, at_of (j := 2) rfl rfl, _, rfl, _, _, rfl, rfl, (by omega : m ≠ 0), ?_⟩
        refine ⟨_, rfl, d, _, 2, _, rfl, rfl, SqL.of hd, at_of (j := 2) rfl rfl, _, rfl, _, _, rfl, rfl, ⟨by omega, by omega⟩, _, rfl, _, _, _, 2, rfl, rfl, hd, rfl, ?_⟩
        have f0 := Int.fmod_nonneg_of_pos j m0
        have f1 := Int.fmod_lt_of_pos j m0
        have f2 : 0 ≤ j.fdiv m := Int.fdiv_nonneg hj (by omega)
        exact ⟨_, rfl, q _ _ f0 f1 (g.turnM _ rfl out) ⟨⟨a, ns, i, _, k, l, upd_same, ha, hi, f2, hk0, hk⟩, out⟩⟩
      · refine ⟨_, rfl, d, _, 4, _, rfl, rfl, SqL.of hd, at_of (j := 4) rfl rfl, _, _, rfl, rfl, _, rfl, _, _, _, 4, rfl, rfl, hd, rfl, ?_⟩
        refine ⟨_, rfl, d, _, 3, _, rfl, rfl, SqL.of upd_same, at_of (j := 3) rfl rfl, _, _, rfl, rfl, ⟨by decide, by decide, by omega⟩, _, rfl, d, _, 4, _, rfl, rfl, SqL.of upd_same, at_of (j := 4) rfl rfl, _, _, rfl, rfl, .inl ⟨by decide, by decide⟩, _, _, rfl, rfl, _, _, rfl, rfl, _, _, rfl, rfl, (by show (1000000007 : Int) ≠ 0; decide), _, rfl, _, _, _, 3, rfl, rfl, upd_same, rfl, ?_⟩
        have f0 := Int.fmod_nonneg_of_pos (k ^ Int.toNat 3 + 40503 * (l + 1) + 17) (show (0 : Int) < 1000000007 by decide)
        have f1 := Int.fmod_lt_of_pos (k ^ Int.toNat 3 + 40503 * (l + 1) + 17) (show (0 : Int) < 1000000007 by decide)
        refine ⟨_, rfl, d, _, 3, _, rfl, rfl, SqL.of upd_same, at_of (j := 3) rfl rfl, _, _, rfl, rfl, ⟨by decide, by decide⟩, _, rfl, _, _, rfl, rfl, (by omega : m ≠ 0), ?_⟩
        exact q _ _ (Int.fmod_nonneg_of_pos _ m0) (Int.fmod_lt_of_pos _ m0) ((g.turnM _ rfl out).turnM _ rfl out) ⟨⟨a, ns, i, j, _, _, upd_same, ha, hi, hj, f0, by omega⟩, out⟩
abbrev s_channel : Stmt := topS 26
theorem sc_channel : FnScope ["_law_draw"] ["_law_draw"] (defScope s_channel) := ⟨rfl, rfl, rfl, by decide +kernel, rfl, by decide +kernel, by decide +kernel⟩
theorem ok_channel {f : Addr} {fd : FuncData} (F : Fun K "_law_channel" "_law_channel" s_channel f fd) (D__law_pick : Def P w K mg base "_law_pick" 1 spPick) : FnOk P w K mg base CX0 2 f fd ["_law_draw"] (spInts 0 15) := by
  refine F.ok sc_channel (fun vs H Q E h => ?_) (fun cdv A outer s H vs Q E hr h => ?_)
  · obtain ⟨d, H0, rfl, _⟩ := h
    rfl
  · obtain ⟨d, H0, rfl, e0, hD, q⟩ := h
    refine ⟨_, (pss_one (ps_ret (pe_ix ix_tup (pe_tup (pa_cons (pe_d D__law_pick (hr.mono (by decide)) rfl (pa_cons (pv 0) (pa_cons pe_int pa_nil))) (pa_cons (pe_d D__law_pick (hr.mono (by decide)) rfl (pa_cons (pv 0) (pa_cons pe_int pa_nil))) pa_nil))) (pe_d D__law_pick (hr.mono (by decide)) rfl (pa_cons (pv 0) (pa_cons pe_int pa_nil))) (fun _ _ => rfl)))), ?_⟩
    have S := Sd.here e0 hD
    refine ⟨_, rfl, d, 3, _, rfl, by decide, by decide, S.ex, S.dr, fun x H x0 x1 g hD => ?_⟩
    have S := S.call g hD
    refine ⟨_, rfl, d, 16, _, rfl, by decide, by decide, S.ex, S.dr, fun y H y0 y1 g hD => ?_⟩
    have S := S.call g hD
    refine ⟨(by show 2 ≤ sizeLine; decide), fun t ht => ?_⟩
    have S := S.put (.tup [.int x, .int y]) ht
    refine ⟨_, rfl, d, 2, _, rfl, by decide, by decide, S.ex, S.dr, fun u H u0 u1 g hD => ?_⟩
    have S := S.call g hD
    have htt := g.up t _ upd_same
    obtain ⟨r, hr', r0, r1⟩ := get_int [.int x, .int y] 0 15 (fun v hv => by
      simp only [List.mem_cons, List.mem_nil_iff, or_false] at hv
      rcases hv with rfl | rfl
      · exact ⟨x, rfl, x0, by omega⟩
      · exact ⟨y, rfl, y0, by omega⟩) u u0 u1
    exact ⟨t, _, _, _, rfl, rfl, SqT.of (S.ex _ _ htt), at_of (j := u.toNat) (by omega) hr', q r _ _ r0 r1 S.go S.dr⟩
abbrev s_key : Stmt := topS 27
theorem sc_key : FnScope ["_law_draw"] ["_law_draw"] (defScope s_key) := ⟨rfl, rfl, rfl, by decide +kernel, rfl, by decide +kernel, by decide +kernel⟩
theorem ok_key {f : Addr} {fd : FuncData} (F : Fun K "_law_key" "_law_key" s_key f fd) (D__law_pick : Def P w K mg base "_law_pick" 1 spPick) : FnOk P w K mg base CX0 2 f fd ["_law_draw"] (spInts 0 127) := by
  refine F.ok sc_key (fun vs H Q E h => ?_) (fun cdv A outer s H vs Q E hr h => ?_)
  · obtain ⟨d, H0, rfl, _⟩ := h
    rfl
  · obtain ⟨d, H0, rfl, e0, hD, q⟩ := h
    refine ⟨_, (pss_one (ps_ret (pe_ix ix_tup (pe_tup (pa_cons (pe_op op_add pe_int (pe_d D__law_pick (hr.mono (by decide)) rfl (pa_cons (pv 0) (pa_cons pe_int pa_nil)))) (pa_cons (pe_d D__law_pick (hr.mono (by decide)) rfl (pa_cons (pv 0) (pa_cons pe_int pa_nil))) pa_nil))) (pe_d D__law_pick (hr.mono (by decide)) rfl (pa_cons (pv 0) (pa_cons pe_int pa_nil))) (fun _ _ => rfl)))), ?_⟩
    have S := Sd.here e0 hD
    refine ⟨_, rfl, d, 3, _, rfl, by decide, by decide, S.ex, S.dr, fun x H x0 x1 g hD => ?_⟩
    have S := S.call g hD
    refine ⟨_, _, rfl, rfl, _, rfl, d, 128, _, rfl, by decide, by decide, S.ex, S.dr, fun y H y0 y1 g hD => ?_⟩
    have S := S.call g hD
    refine ⟨(by show 2 ≤ sizeLine; decide), fun t ht => ?_⟩
    have S := S.put (.tup [.int (60 + x), .int y]) ht
    refine ⟨_, rfl, d, 2, _, rfl, by decide, by decide, S.ex, S.dr, fun u H u0 u1 g hD => ?_⟩
    have S := S.call g hD
    have htt := g.up t _ upd_same
    obtain ⟨r, hr', r0, r1⟩ := get_int [.int (60 + x), .int y] 0 127 (fun v hv => by
      simp only [List.mem_cons, List.mem_nil_iff, or_false] at hv
      rcases hv with rfl | rfl
      · exact ⟨60 + x, rfl, by omega, by omega⟩
      · exact ⟨y, rfl, y0, by omega⟩) u u0 u1
    exact ⟨t, _, _, _, rfl, rfl, SqT.of (S.ex _ _ htt), at_of (j := u.toNat) (by omega) hr', q r _ _ r0 r1 S.go S.dr⟩
abbrev s_word : Stmt := topS 28
theorem sc_word : FnScope ["_law_draw", "_law_most", "_law_signs", "_law_k"] ["_law_draw", "_law_most"] (defScope s_word) := ⟨rfl, rfl, rfl, by decide +kernel, rfl, by decide +kernel, by decide +kernel⟩
/-- a text drawn of the signs -/
def spWord : Sp := fun vs H Q _ => ∃ (d : Addr) (m : Nat) (H0 : Hp), vs = [.ref d, .int (m : Int)] ∧ m ≤ 100 ∧ Ex H0 H ∧ Dr H0 H d ∧
  ∀ (s : Str) (G0 H' : Hp), s.length ≤ m → (∀ c ∈ s.cps.toList, c ∈ signsS.cps.toList) → Go (· = d) H0 H G0 H' → Dr G0 H' d → Q (.str s) H'
theorem ok_word {f : Addr} {fd : FuncData} (F : Fun K "_law_word" "_law_word" s_word f fd) (D__law_pick : Def P w K mg base "_law_pick" 1 spPick) (m_range : mg "range" = none) : FnOk P w K mg base CX0 2 f fd ["_law_draw", "_law_most"] spWord := by
  refine F.ok sc_word (fun vs H Q E h => ?_) (fun cdv A outer s B vs Q E hr h => ?_)
  · obtain ⟨d, m, H0, rfl, _⟩ := h
    rfl
  · obtain ⟨d, m, H0, rfl, hm, e0, hD, q⟩ := h
    refine ⟨_, (pss_cons (ps_set (i := 2) sc_word.nd rfl (Or.inr rfl) pe_str)
      (pss_cons (ps_if (pt_cmpR op_eq (pe_d D__law_pick (hr.mono (by decide)) rfl (pa_cons (pv 0) (pa_cons pe_int pa_nil))) pe_int (nomark _)) (pss_one (ps_ret (pe_op op_repS (pe_ix ix_str (pv 2) (pe_d D__law_pick (hr.mono (by decide)) rfl (pa_cons (pv 0) (pa_cons pe_int pa_nil))) (fun _ _ => rfl)) (pe_d D__law_pick (hr.mono (by decide)) rfl (pa_cons (pv 0) (pa_cons (pe_op op_add (pv 1) pe_int) pa_nil)))))) pss_nil)
      (pss_one (ps_ret (pe_join pe_str (pe_lc (own := [("_law_k", 3)]) (g := gName 3) (tt := tYes) rfl sc_word.nd (pi_range1 rfl m_range (pa_cons (pe_d D__law_pick (hr.mono (by decide)) rfl (pa_cons (pv 0) (pa_cons (pe_op op_add (pv 1) pe_int) pa_nil))) pa_nil)) (blkOk_by (N := ["_law_draw", "_law_most", "_law_signs", "_law_k"]) (sc := defScope s_word) (by decide +kernel)) (fun _ _ _ _ _ => pg_name (i := 3) sc_word.nd rfl (Or.inl rfl)) (fun _ _ _ _ _ => pts_nil) (fun _ _ _ _ _ => (pe_ix ix_str (pv 2) (pe_d D__law_pick (hr.mono (by decide)) rfl (pa_cons (pv 0) (pa_cons pe_int pa_nil))) (fun _ _ => rfl))))))))), ?_⟩
    have S := Sd.here e0 hD
    have sgn : ∀ r : Int, 0 ≤ r → r < 37 → ∃ c, signsS.cps.toList[r.toNat]? = some c := fun r r0 r1 => ⟨_, List.getElem?_eq_getElem (by show r.toNat < 37; omega)⟩
    refine ⟨_, rfl, d, 2, _, rfl, by decide, by decide, S.ex, S.dr, fun x H x0 x1 g hD => ?_⟩
    have S := S.call g hD
    refine ⟨rfl, _, rfl, ifD (fun c => ?_) (fun c => ?_)⟩
    · refine ⟨_, rfl, _, rfl, d, 37, _, rfl, by decide, by decide, S.ex, S.dr, fun y H y0 y1 g hD => ?_⟩
      have S := S.call g hD
      obtain ⟨c, hc⟩ := sgn y y0 y1
      refine ⟨signsS, y, c, rfl, rfl, mem_sz (by show 37 ≤ _; decide), at_n (j := y.toNat) (by omega) hc, ?_⟩
      refine ⟨_, rfl, _, rfl, _, _, rfl, rfl, d, _, _, rfl, by omega, by omega, S.ex, S.dr, fun n H n0 n1 g hD => ?_⟩
      have S := S.call g hD
      obtain ⟨n, rfl⟩ : ∃ k : Nat, n = (k : Int) := ⟨n.toNat, by omega⟩
      refine ⟨_, n, rfl, rfl, (by show 1 ≤ 1000; decide), by omega, fun w hw hc2 => q w _ _ ?_ (fun c' h => ?_) S.go S.dr⟩
      · have : w.length = 1 * n := hw
        omega
      · have : c' ∈ [c] := hc2 c' h
        rw [List.mem_singleton.mp this]
        exact List.mem_of_getElem? hc
    · refine ⟨⟨_, rfl⟩, _, rfl, _, rfl, _, _, rfl, rfl, d, _, _, rfl, by omega, by omega, S.ex, S.dr, fun n H n0 n1 g hD => ?_⟩
      have S := S.call g hD
      obtain ⟨n, rfl⟩ : ∃ k : Nat, n = (k : Int) := ⟨n.toNat, by omega⟩
      refine ⟨_, rfl, by omega, by omega, fun D hDn => ?_⟩
      have ndD := S.dr.ne hDn
      have bD := S.go.fresh hDn
      refine lc_range (lo := 0) (n := n) (fun i H' => ∃ (ys : List Str) (G0 : Hp), H' D = some (.lst (ys.map V.str)) ∧ ys.length = i ∧ (∀ y ∈ ys, ∃ c ∈ signsS.cps.toList, y = ⟨#[c]⟩) ∧ Sd d H0 B G0 H' ∧ G0 D = none) ⟨[], _, upd_same, rfl, (fun y h => nomatch h), S.lay _ hDn, S.ex.free hDn⟩ ?_ ?_
      · rintro i H' hi ⟨ys, G0, h1, h2, h3, S1, h4⟩
        refine ⟨rfl, ?_⟩
        refine ⟨_, rfl, _, rfl, d, 37, _, rfl, by decide, by decide, S1.ex, S1.dr, fun r H2 r0 r1 g hD2 => ?_⟩
        have S2 := S1.call g hD2
        obtain ⟨c, hc⟩ := sgn r r0 r1
        have h5 := g.keep D _ h1 (fun z => ndD z.symm)
        refine ⟨signsS, r, c, rfl, rfl, mem_sz (by show 37 ≤ _; decide), at_n (j := r.toNat) (by omega) hc, _, h5, mem_lt (by rw [List.length_map]; omega), ys ++ [⟨#[c]⟩], _, ?_, by rw [List.length_append, h2]; rfl, fun y hy => ?_, S2.turn _ bD ?_ ndD, ?_⟩
        · rw [upd_same, List.map_append]
          rfl
        · rcases List.mem_append.mp hy with h | h
          · exact h3 y h
          · exact ⟨c, List.mem_of_getElem? hc, List.mem_singleton.mp h⟩
        · exact g.new D (by rw [h1]; simp) h4
        · exact g.new D (by rw [h1]; simp) h4
      · rintro H' ⟨ys, G0, h1, h2, h3, S1, h4⟩
        obtain ⟨j1, j2⟩ := join_signs ys _ h3
        refine ⟨_, D, ys, rfl, rfl, .inl (SqL.of h1), ?_, q _ _ _ (by omega) j2 S1.go S1.dr⟩
        rw [sum_signs ys _ h3]
        show ys.length + ys.length * 0 ≤ 16777216
        omega
abbrev s_thing : Stmt := topS 29
theorem sc_thing : FnScope ["_law_draw", "_law_kind", "_law_channel_here"] ["_law_draw"] (defScope s_thing) := ⟨rfl, rfl, rfl, by decide +kernel, rfl, by decide +kernel, by decide +kernel⟩
theorem thing_on {c k f : Int} (hc : 0 ≤ c ∧ c ≤ 15) (hk : 0 ≤ k ∧ k ≤ 127) (hf : 1 ≤ f ∧ f ≤ 127) : thingOk [.str "on", .int c, .int k, .int f] = true := by
  rw [thing_word (by decide)]
  show (withinV (.int c) 0 15 && (withinV (.int k) 0 127 && (withinV (.int f) 1 127 && true))) = true
  rw [win hc, win hk, win hf]
  rfl
theorem thing_off {c k f : Int} (hc : 0 ≤ c ∧ c ≤ 15) (hk : 0 ≤ k ∧ k ≤ 127) (hf : 0 ≤ f ∧ f ≤ 127) : thingOk [.str "off", .int c, .int k, .int f] = true := by
  rw [thing_word (by decide)]
  show (withinV (.int c) 0 15 && (withinV (.int k) 0 127 && (withinV (.int f) 0 127 && true))) = true
  rw [win hc, win hk, win hf]
  rfl
theorem thing_knob {c k f : Int} (hc : 0 ≤ c ∧ c ≤ 15) (hk : 0 ≤ k ∧ k ≤ 127) (hf : 0 ≤ f ∧ f ≤ 127) : thingOk [.str "knob", .int c, .int k, .int f] = true := by
  rw [thing_word (by decide)]
  show (withinV (.int c) 0 15 && (withinV (.int k) 0 127 && (withinV (.int f) 0 127 && true))) = true
  rw [win hc, win hk, win hf]
  rfl
theorem thing_voice {c k : Int} (hc : 0 ≤ c ∧ c ≤ 15) (hk : 0 ≤ k ∧ k ≤ 127) : thingOk [.str "voice", .int c, .int k] = true := by
  rw [thing_word (by decide)]
  show (withinV (.int c) 0 15 && (withinV (.int k) 0 127 && true)) = true
  rw [win hc, win hk]
  rfl
theorem thing_text {s : Str} (h : s.length ≤ 12) (hc : ∀ c ∈ s.cps.toList, c ∈ signsS.cps.toList) : thingOk [.str "mark", .str s] = true := by
  rw [thing_mark]
  show (decide (s.length ≤ 12) && s.cps.toList.all _) = true
  rw [decide_eq_true h, Bool.true_and]
  exact List.all_eq_true.mpr fun c h => decide_eq_true (hc c h)
/-- a good thing drawn: a new tuple -/
def spThing : Sp := fun vs H Q _ => ∃ (d : Addr) (H0 : Hp), vs = [.ref d] ∧ Ex H0 H ∧ Dr H0 H d ∧
  ∀ (t : Addr) (xs : List V) (G0 H' : Hp), thingOk xs = true → (∀ x ∈ xs, Scal x) → xs.length ≤ 4 → Go (· = d) H0 H G0 H' → Dr G0 H' d → H t = none → G0 t = some (.tup xs) → Q (.ref t) H'
theorem ok_thing {f : Addr} {fd : FuncData} (F : Fun K "_law_thing" "_law_thing" s_thing f fd) (D__law_pick : Def P w K mg base "_law_pick" 1 spPick) (D__law_channel : Def P w K mg base "_law_channel" 2 (spInts 0 15)) (D__law_key : Def P w K mg base "_law_key" 2 (spInts 0 127))
    (D__law_word : Def P w K mg base "_law_word" 2 spWord) : FnOk P w K mg base CX0 3 f fd ["_law_draw"] spThing := by
  refine F.ok sc_thing (fun vs H Q E h => ?_) (fun cdv A outer s B vs Q E hr h => ?_)
  · obtain ⟨d, H0, rfl, _⟩ := h
    rfl
  · obtain ⟨d, H0, rfl, e0, hD, q⟩ := h
    refine ⟨_, (pss_cons (ps_set (i := 1) sc_thing.nd rfl (Or.inl rfl) (pe_d D__law_pick (hr.mono (by decide)) rfl (pa_cons (pv 0) (pa_cons pe_int pa_nil))))
      (pss_cons (ps_set (i := 2) sc_thing.nd rfl (Or.inl rfl) (pe_d D__law_channel (hr.mono (by decide)) rfl (pa_cons (pv 0) pa_nil)))
      (pss_cons (ps_if (pt_cmpR op_lt (pv 1) pe_int (nomark _)) (pss_one (ps_ret (pe_tup (pa_cons pe_str (pa_cons (pv 2) (pa_cons (pe_d D__law_key (hr.mono (by decide)) rfl (pa_cons (pv 0) pa_nil)) (pa_cons (pe_op op_add pe_int (pe_d D__law_pick (hr.mono (by decide)) rfl (pa_cons (pv 0) (pa_cons pe_int pa_nil)))) pa_nil))))))) pss_nil)
      (pss_cons (ps_if (pt_cmpR op_lt (pv 1) pe_int (nomark _)) (pss_one (ps_ret (pe_tup (pa_cons pe_str (pa_cons (pv 2) (pa_cons (pe_d D__law_key (hr.mono (by decide)) rfl (pa_cons (pv 0) pa_nil)) (pa_cons (pe_ix ix_tup (pe_tup (pa_cons pe_int (pa_cons (pe_d D__law_pick (hr.mono (by decide)) rfl (pa_cons (pv 0) (pa_cons pe_int pa_nil))) pa_nil))) (pe_d D__law_pick (hr.mono (by decide)) rfl (pa_cons (pv 0) (pa_cons pe_int pa_nil))) (fun _ _ => rfl)) pa_nil))))))) pss_nil)
      (pss_cons (ps_if (pt_cmpR op_lt (pv 1) pe_int (nomark _)) (pss_one (ps_ret (pe_tup (pa_cons pe_str (pa_cons (pv 2) (pa_cons (pe_ix ix_tup (pe_tup (pa_cons (pe_d D__law_pick (hr.mono (by decide)) rfl (pa_cons (pv 0) (pa_cons pe_int pa_nil))) (pa_cons (pe_d D__law_pick (hr.mono (by decide)) rfl (pa_cons (pv 0) (pa_cons pe_int pa_nil))) pa_nil))) (pe_d D__law_pick (hr.mono (by decide)) rfl (pa_cons (pv 0) (pa_cons pe_int pa_nil))) (fun _ _ => rfl)) (pa_cons (pe_d D__law_pick (hr.mono (by decide)) rfl (pa_cons (pv 0) (pa_cons pe_int pa_nil))) pa_nil))))))) pss_nil)
      (pss_cons (ps_if (pt_cmpR op_eq (pv 1) pe_int (nomark _)) (pss_one (ps_ret (pe_tup (pa_cons pe_str (pa_cons (pv 2) (pa_cons (pe_d D__law_pick (hr.mono (by decide)) rfl (pa_cons (pv 0) (pa_cons pe_int pa_nil))) pa_nil)))))) pss_nil)
      (pss_one (ps_ret (pe_tup (pa_cons pe_str (pa_cons (pe_d D__law_word (hr.mono (by decide)) rfl (pa_cons (pv 0) (pa_cons pe_int pa_nil))) pa_nil))))))))))), ?_⟩
    have S := Sd.here e0 hD
    refine ⟨_, rfl, d, 12, _, rfl, by decide, by decide, S.ex, S.dr, fun k H k0 k1 g hD => ?_⟩
    have S := S.call g hD
    refine ⟨_, rfl, d, _, rfl, S.ex, S.dr, fun c G0 H c0 c1 g hD => ?_⟩
    have S := S.call g hD
    have fin : ∀ (G0 H : Hp) (xs : List V), Sd d H0 B G0 H → thingOk xs = true → (∀ x ∈ xs, Scal x) → xs.length ≤ 4 → ∀ t, H t = none → Q (.ref t) (upd H t (.tup xs)) := fun G0 H xs S h1 h2 h3 t ht =>
      q t xs _ _ h1 h2 h3 (S.put _ ht).go (S.put _ ht).dr (S.go.fresh ht) upd_same
    have sI : ∀ z : Int, Scal (.int z) := fun z => .inl ⟨z, rfl⟩
    have sS : ∀ s : Str, s.length ≤ 1000 → Scal (.str s) := fun s h => .inr ⟨s, rfl, h⟩
    refine ⟨_, rfl, _, _, rfl, rfl, _, rfl, ifD (fun h => ?_) (fun h => ?_)⟩
    · refine ⟨_, rfl, _, rfl, d, _, rfl, S.ex, S.dr, fun y G0 H y0 y1 g hD => ?_⟩
      have S := S.call g hD
      refine ⟨_, rfl, d, 127, _, rfl, by decide, by decide, S.ex, S.dr, fun z H z0 z1 g hD => ?_⟩
      have S := S.call g hD
      refine ⟨_, _, rfl, rfl, (by show 4 ≤ sizeLine; decide), fun t ht => ?_⟩
      exact fin _ _ _ S (thing_on ⟨c0, c1⟩ ⟨y0, y1⟩ ⟨by omega, by omega⟩) (by
        intro x hx
        simp only [List.mem_cons, List.mem_nil_iff, or_false] at hx
        rcases hx with rfl | rfl | rfl | rfl
        · exact sS _ (by decide)
        all_goals exact sI _) (by show 4 ≤ 4; decide) t ht
    refine ⟨_, rfl, _, _, rfl, rfl, _, rfl, ifD (fun h => ?_) (fun h => ?_)⟩
    · refine ⟨_, rfl, _, rfl, d, _, rfl, S.ex, S.dr, fun y G0 H y0 y1 g hD => ?_⟩
      have S := S.call g hD
      refine ⟨_, rfl, d, 128, _, rfl, by decide, by decide, S.ex, S.dr, fun z H z0 z1 g hD => ?_⟩
      have S := S.call g hD
      refine ⟨(by show 2 ≤ sizeLine; decide), fun t ht => ?_⟩
      have S := S.put (.tup [.int 64, .int z]) ht
      refine ⟨_, rfl, d, 2, _, rfl, by decide, by decide, S.ex, S.dr, fun u H u0 u1 g hD => ?_⟩
      have S := S.call g hD
      have htt := g.up t _ upd_same
      obtain ⟨r, hr', r0, r1⟩ := get_int [.int 64, .int z] 0 127 (fun v hv => by
        simp only [List.mem_cons, List.mem_nil_iff, or_false] at hv
        rcases hv with rfl | rfl
        · exact ⟨64, rfl, by decide, by decide⟩
        · exact ⟨z, rfl, z0, by omega⟩) u u0 u1
      refine ⟨t, _, _, _, rfl, rfl, SqT.of (S.ex _ _ htt), at_of (j := u.toNat) (by omega) hr', (by show 4 ≤ sizeLine; decide), fun t ht => ?_⟩
      exact fin _ _ _ S (thing_off ⟨c0, c1⟩ ⟨y0, y1⟩ ⟨r0, r1⟩) (by
        intro x hx
        simp only [List.mem_cons, List.mem_nil_iff, or_false] at hx
        rcases hx with rfl | rfl | rfl | rfl
        · exact sS _ (by decide)
        all_goals exact sI _) (by show 4 ≤ 4; decide) t ht
    refine ⟨_, rfl, _, _, rfl, rfl, _, rfl, ifD (fun h => ?_) (fun h => ?_)⟩
    · refine ⟨_, rfl, _, rfl, d, 3, _, rfl, by decide, by decide, S.ex, S.dr, fun y H y0 y1 g hD => ?_⟩
      have S := S.call g hD
      refine ⟨_, rfl, d, 128, _, rfl, by decide, by decide, S.ex, S.dr, fun z H z0 z1 g hD => ?_⟩
      have S := S.call g hD
      refine ⟨(by show 2 ≤ sizeLine; decide), fun t ht => ?_⟩
      have S := S.put (.tup [.int y, .int z]) ht
      refine ⟨_, rfl, d, 2, _, rfl, by decide, by decide, S.ex, S.dr, fun u H u0 u1 g hD => ?_⟩
      have S := S.call g hD
      have htt := g.up t _ upd_same
      obtain ⟨r, hr', r0, r1⟩ := get_int [.int y, .int z] 0 127 (fun v hv => by
        simp only [List.mem_cons, List.mem_nil_iff, or_false] at hv
        rcases hv with rfl | rfl
        · exact ⟨y, rfl, y0, by omega⟩
        · exact ⟨z, rfl, z0, by omega⟩) u u0 u1
      refine ⟨t, _, _, _, rfl, rfl, SqT.of (S.ex _ _ htt), at_of (j := u.toNat) (by omega) hr', _, rfl, d, 128, _, rfl, by decide, by decide, S.ex, S.dr, fun z2 H z20 z21 g hD => ?_⟩
      have S := S.call g hD
      refine ⟨(by show 4 ≤ sizeLine; decide), fun t ht => ?_⟩
      exact fin _ _ _ S (thing_knob ⟨c0, c1⟩ ⟨r0, r1⟩ ⟨z20, by omega⟩) (by
        intro x hx
        simp only [List.mem_cons, List.mem_nil_iff, or_false] at hx
        rcases hx with rfl | rfl | rfl | rfl
        · exact sS _ (by decide)
        all_goals exact sI _) (by show 4 ≤ 4; decide) t ht
    refine ⟨_, rfl, rfl, _, rfl, ifD (fun h => ?_) (fun h => ?_)⟩
    · refine ⟨_, rfl, _, rfl, d, 128, _, rfl, by decide, by decide, S.ex, S.dr, fun z H z0 z1 g hD => ?_⟩
      have S := S.call g hD
      refine ⟨(by show 3 ≤ sizeLine; decide), fun t ht => ?_⟩
      exact fin _ _ _ S (thing_voice ⟨c0, c1⟩ ⟨z0, by omega⟩) (by
        intro x hx
        simp only [List.mem_cons, List.mem_nil_iff, or_false] at hx
        rcases hx with rfl | rfl | rfl
        · exact sS _ (by decide)
        all_goals exact sI _) (by show 3 ≤ 4; decide) t ht
    · refine ⟨_, rfl, d, 12, _, rfl, by decide, S.ex, S.dr, fun s G0 H s1 s2 g hD => ?_⟩
      have S := S.call g hD
      refine ⟨(by show 2 ≤ sizeLine; decide), fun t ht => ?_⟩
      exact fin _ _ _ S (thing_text s1 s2) (by
        intro x hx
        simp only [List.mem_cons, List.mem_nil_iff, or_false] at hx
        rcases hx with rfl | rfl
        · exact sS _ (by decide)
        · exact sS _ (by omega)) (by show 2 ≤ 4; decide) t ht
abbrev s_gap_of : Stmt := topS 25
theorem sc_gap_of : FnScope ["_law_draw", "_law_wide"] ["_law_draw"] (defScope s_gap_of) := ⟨rfl, rfl, rfl, by decide +kernel, rfl, by decide +kernel, by decide +kernel⟩
theorem ok_gap_of {f : Addr} {fd : FuncData} (F : Fun K "_law_gap_of" "_law_gap_of" s_gap_of f fd) (D__law_pick : Def P w K mg base "_law_pick" 1 spPick) : FnOk P w K mg base CX0 2 f fd ["_law_draw"] (spInts 0 999999) := by
  refine F.ok sc_gap_of (fun vs H Q E h => ?_) (fun cdv A outer s H vs Q E hr h => ?_)
  · obtain ⟨d, H0, rfl, _⟩ := h
    rfl
  · obtain ⟨d, H0, rfl, e0, hD, q⟩ := h
    refine ⟨_, (pss_cons (ps_set (i := 1) sc_gap_of.nd rfl (Or.inl rfl) (pe_ix ix_tup (pe_tup (pa_cons pe_int (pa_cons pe_int (pa_cons pe_int (pa_cons pe_int (pa_cons pe_int (pa_cons pe_int (pa_cons pe_int pa_nil)))))))) (pe_d D__law_pick (hr.mono (by decide)) rfl (pa_cons (pv 0) (pa_cons pe_int pa_nil))) (fun _ _ => rfl)))
      (pss_one (ps_ret (pe_d D__law_pick (hr.mono (by decide)) rfl (pa_cons (pv 0) (pa_cons (pv 1) pa_nil)))))), ?_⟩
    have S := Sd.here e0 hD
    refine ⟨(by show 7 ≤ sizeLine; decide), fun t ht => ?_⟩
    have S := S.put (.tup [.int 1, .int 1, .int 3, .int 12, .int 200, .int 30000, .int 400000]) ht
    refine ⟨_, rfl, d, 7, _, rfl, by decide, by decide, S.ex, S.dr, fun u H u0 u1 g hD => ?_⟩
    have S := S.call g hD
    have htt := g.up t _ upd_same
    obtain ⟨r, hr', r0, r1⟩ := get_int [.int 1, .int 1, .int 3, .int 12, .int 200, .int 30000, .int 400000] 1 400000 (fun v hv => by
      simp only [List.mem_cons, List.mem_nil_iff, or_false] at hv
      rcases hv with rfl | rfl | rfl | rfl | rfl | rfl | rfl
      all_goals exact ⟨_, rfl, by decide, by decide⟩) u u0 u1
    refine ⟨t, _, _, _, rfl, rfl, SqT.of (S.ex _ _ htt), at_of (j := u.toNat) (by omega) hr', ?_⟩
    exact ⟨_, rfl, _, rfl, d, r, _, rfl, by omega, by omega, S.ex, S.dr, fun z H z0 z1 g hD => q z _ _ z0 (by omega) (S.call g hD).go (S.call g hD).dr⟩
abbrev s_gap_bytes : Stmt := topS 7
theorem sc_gap_bytes : FnScope ["number", "row", "rest"] ["number"] (defScope s_gap_bytes) := ⟨rfl, rfl, rfl, by decide +kernel, rfl, by decide +kernel, by decide +kernel⟩
theorem ok_gap_bytes {f : Addr} {fd : FuncData} (F : Fun K "gap_bytes" "gap_bytes" s_gap_bytes f fd) (c_MOST_GAP : ∃ u, mg "MOST_GAP" = some u ∧ L2.RelV (.int 268435455) u) (c_BASE : ∃ u, mg "BASE" = some u ∧ L2.RelV (.int 128) u) : FnOk P w K mg base CX0 1 f fd ["number"] spGapBytes := by
  refine F.ok sc_gap_bytes (fun vs H Q E h => ?_) (fun cdv A outer s H vs Q E hr h => ?_)
  · obtain ⟨n, H0, rfl, _⟩ := h
    rfl
  · obtain ⟨n, H0, rfl, hn, e0, q⟩ := h
    refine ⟨_, (pss_cons (ps_if (PW.pt (pw_or (pt_cmpR op_lt (pv 0) pe_int (nomark _)) (pw_or1 (pt_cmpR op_gt (pv 0) (C8.pe_gc rfl c_MOST_GAP) (nomark _))))) (pss_one ps_never) pss_nil)
      (pss_cons (ps_set (i := 1) sc_gap_bytes.nd rfl (Or.inl rfl) (pe_lst (pa_cons (pe_op op_mod (pv 0) (C8.pe_gc rfl c_BASE)) pa_nil)))
      (pss_cons (ps_set (i := 2) sc_gap_bytes.nd rfl (Or.inl rfl) (pe_op op_fdiv (pv 0) (C8.pe_gc rfl c_BASE)))
      (pss_cons (ps_while PassesOwn.never (pt_cmpR op_gt (pv 2) pe_int (nomark _)) (pss_cons (ps_expr (pe_bm PySem.F.plainAttrs_list PySem.F.slot_list_append PySem.F.type_list_append mt_append (pv 1) (pa_cons (pe_op op_add (C8.pe_gc rfl c_BASE) (pe_op op_mod (pv 2) (C8.pe_gc rfl c_BASE))) pa_nil)))
      (pss_one (ps_set (i := 2) sc_gap_bytes.nd rfl (Or.inl rfl) (pe_op op_fdiv (pv 2) (C8.pe_gc rfl c_BASE))))))
      (pss_cons (ps_expr (pe_bm0 PySem.F.plainAttrs_list PySem.F.slot_list_reverse PySem.F.type_list_reverse mt_reverse (pv 1)))
      (pss_one (ps_ret (pv 1)))))))), ?_⟩
    -- if number < 0 or number > MOST_GAP
    refine ⟨_, rfl, _, _, rfl, rfl, _, rfl, ifF (decide_eq_false (by omega)) ?_⟩
    refine ⟨_, rfl, _, _, rfl, rfl, _, rfl, ifF (decide_eq_false (by omega)) ?_⟩
    -- row = [number % BASE]
    refine ⟨_, rfl, _, _, rfl, rfl, (by show (0 : Int) < 128; decide), (by show 1 ≤ sizeLine; decide), fun p hp => ?_⟩
    have g0 := Go.refl (m := fun _ => False) e0
    have g1 := g0.lay (.lst [V.int ((n : Int) % 128)]) hp
    -- rest = number // BASE
    refine ⟨_, rfl, _, _, rfl, rfl, ⟨by decide, by decide⟩, ?_⟩
    -- while rest > 0
    refine ⟨fun m σ H' => ∃ (l : List Nat), σ = [some (.int (n : Int)), some (.ref p), some (.int (m : Int))] ∧ H' p = some (.lst (nums l)) ∧ Go (fun _ => False) H0 H H0 H' ∧ l.length + (gtl m).length ≤ 10 ∧ l ++ gtl m = (n % 128) :: gtl (n / 128), ⟨n / 128, [n % 128], rfl, upd_same, g1, ?_, rfl⟩, ?_⟩
    · have := gtl_len 3 (n / 128) (by omega)
      show 1 + _ ≤ 10
      omega
    · rintro m σ H' ⟨l, rfl, hl, g, l10, el⟩
      refine ⟨_, rfl, _, _, rfl, rfl, _, rfl, ifD (fun c => ?_) (fun c => ?_)⟩
      · have hm : m ≠ 0 := by omega
        have e1 : gtl m = (128 + m % 128) :: gtl (m / 128) := gtl1 hm
        refine ⟨fun σ' H2 => ∃ (l : List Nat), σ' = [some (.int (n : Int)), some (.ref p), some (.int ((m / 128 : Nat) : Int))] ∧ H2 p = some (.lst (nums l)) ∧ Go (fun _ => False) H0 H H0 H2 ∧ l.length + (gtl (m / 128)).length ≤ 10 ∧ l ++ gtl (m / 128) = (n % 128) :: gtl (n / 128), fun σ' H2 ⟨l', h'⟩ => ⟨m / 128, by omega, l', h'⟩, ?_⟩
        -- row.append(BASE + rest % BASE); rest = rest // BASE
        refine ⟨_, rfl, .inl ⟨rfl, _, SqL.of hl⟩, _, rfl, _, _, rfl, rfl, (by show (0 : Int) < 128; decide), _, _, rfl, rfl, p, _, _, rfl, rfl, hl, mem_lt (by rw [nums_len]; omega), ?_⟩
        refine ⟨_, rfl, _, _, rfl, rfl, ⟨by decide, by decide⟩, ?_⟩
        refine ⟨l ++ [128 + m % 128], rfl, ?_, g.turn _ hp (e0.free hp), ?_, ?_⟩
        · rw [upd_same, nums_snoc]
          rfl
        · rw [e1] at l10
          simp only [List.length_append, List.length_cons, List.length_nil] at l10 ⊢
          omega
        · rw [e1] at el
          rw [← el, List.append_assoc]
          rfl
      · have hm : m = 0 := by omega
        subst hm
        rw [gtl0, List.append_nil] at el
        refine ⟨_, rfl, .inl ⟨rfl, _, SqL.of hl⟩, p, _, rfl, rfl, hl, ?_⟩
        refine ⟨_, rfl, q p _ (g.turn _ hp (e0.free hp)) hp ?_⟩
        rw [upd_same, el]
        show some (HO.lst (nums ((n % 128) :: gtl (n / 128))).reverse) = _
        unfold nums gapB
        rw [List.map_reverse]
abbrev s_left_by : Stmt := topS 13
theorem sc_left_by : FnScope ["head"] ["head"] (defScope s_left_by) := ⟨rfl, rfl, rfl, by decide +kernel, rfl, by decide +kernel, by decide +kernel⟩
def spLeft : Sp := fun vs H Q _ => ∃ h : Int, vs = [.int h] ∧ Q (.int (left h)) H
theorem ok_left_by {f d : Addr} {fd : FuncData} (F : Fun K "left_by" "left_by" s_left_by f fd) (c_NO_HEAD : ∃ u, mg "NO_HEAD" = some u ∧ L2.RelV (.int 0) u) (c_HEADS : ∃ u, mg "HEADS" = some u ∧ L2.RelV (.ref d) u) (HK : HeadsK K w d) : FnOk P w K mg base CX0 1 f fd ["head"] spLeft := by
  refine F.ok sc_left_by (fun vs H Q E h => ?_) (fun cdv A outer s H vs Q E hr h => ?_)
  · obtain ⟨h, rfl, _⟩ := h
    rfl
  · obtain ⟨h, rfl, q⟩ := h
    refine ⟨_, (pss_one (ps_ret (pe_ifExp (pt_cmpR op_eq (pv 0) (pe_ix (r := rIxD K w) ix_kdict (C8.pe_gc rfl c_HEADS) pe_str (fun _ _ => rfl)) (nomark _)) (C8.pe_gc rfl c_NO_HEAD) (pv 0)))), ?_⟩
    refine ⟨_, rfl, d, "mark", .int 240, rfl, rfl, HK.mark, rfl, _, rfl, ifD (fun c => ?_) (fun c => ?_)⟩
    · unfold left at q
      rw [if_pos (V.int.inj c)] at q
      exact q
    · unfold left at q
      rw [if_neg fun z => c (by rw [z])] at q
      exact ⟨_, rfl, q⟩
abbrev s_head_cost : Stmt := topS 14
theorem sc_head_cost : FnScope ["ahead", "head"] ["ahead", "head"] (defScope s_head_cost) := ⟨rfl, rfl, rfl, by decide +kernel, rfl, by decide +kernel, by decide +kernel⟩
def spHcost : Sp := fun vs H Q _ => ∃ a h : Int, vs = [.int a, .int h] ∧ Q (.int (hcost a h)) H
theorem ok_head_cost {f : Addr} {fd : FuncData} (F : Fun K "head_cost" "head_cost" s_head_cost f fd) : FnOk P w K mg base CX0 1 f fd ["ahead", "head"] spHcost := by
  refine F.ok sc_head_cost (fun vs H Q E h => ?_) (fun cdv A outer s H vs Q E hr h => ?_)
  · obtain ⟨a, h, rfl, _⟩ := h
    rfl
  · obtain ⟨a, h, rfl, q⟩ := h
    refine ⟨_, (pss_one (ps_ret (pe_ifExp (pt_cmpR op_eq (pv 1) (pv 0) (nomark _)) pe_int pe_int))), ?_⟩
    refine ⟨_, rfl, _, rfl, rfl, _, rfl, ifD (fun c => ?_) (fun c => ?_)⟩
    · unfold hcost at q
      rw [if_pos (V.int.inj c)] at q
      exact q
    · unfold hcost at q
      rw [if_neg fun z => c (by rw [z])] at q
      exact q
end
end Rt

namespace Rt
open PySem PySem.Spec PyProof.Rows L2 RZ TL
section
variable {P : Program} {w : World} {K : PySem.W.Frag} {mg : Str → Option Value} {base : Heap}
abbrev s_track : Stmt := topS 30
theorem sc_track : FnScope ["_law_draw", "_law_most", "_law_found", "_law_tick", "_law_k"] ["_law_draw", "_law_most"] (defScope s_track) := ⟨rfl, rfl, rfl, by decide +kernel, rfl, by decide +kernel, by decide +kernel⟩
theorem ok_track {f : Addr} {fd : FuncData} (F : Fun K "_law_track" "_law_track" s_track f fd) (D__law_pick : Def P w K mg base "_law_pick" 1 spPick) (D__law_gap_of : Def P w K mg base "_law_gap_of" 2 (spInts 0 999999)) (D__law_thing : Def P w K mg base "_law_thing" 3 spThing) (m_range : mg "range" = none) (m_min : mg "min" = none) : FnOk P w K mg base CX0 4 f fd ["_law_draw", "_law_most"] spTrack := by
  refine F.ok sc_track (fun vs H Q E h => ?_) (fun cdv A outer s B vs Q E hr h => ?_)
  · obtain ⟨d, m, H0, rfl, _⟩ := h
    rfl
  · obtain ⟨d, m, H0, rfl, hm, e0, hD, q⟩ := h
    refine ⟨_, (pss_cons (ps_set (i := 2) sc_track.nd rfl (Or.inl rfl) (pe_lst pa_nil))
      (pss_cons (ps_set (i := 3) sc_track.nd rfl (Or.inl rfl) pe_int)
      (pss_cons (ps_for PassesOwn.never rfl (pi_range1 rfl m_range (pa_cons (pe_d D__law_pick (hr.mono (by decide)) rfl (pa_cons (pv 0) (pa_cons (pe_op op_add (pv 1) pe_int) pa_nil))) pa_nil)) (pg_name (i := 4) sc_track.nd rfl (Or.inl rfl)) (pss_cons (ps_set (i := 3) sc_track.nd rfl (Or.inl rfl) (pe_callB (call_min2 rfl) (by rfl) m_min bt_min (pa_cons pe_int (pa_cons (pe_op op_add (pv 3) (pe_d D__law_gap_of (hr.mono (by decide)) rfl (pa_cons (pv 0) pa_nil))) pa_nil))))
      (pss_one (ps_expr (pe_bm PySem.F.plainAttrs_list PySem.F.slot_list_append PySem.F.type_list_append mt_append (pv 2) (pa_cons (pe_op op_catA (pe_tup (pa_cons (pv 3) pa_nil)) (pe_d D__law_thing (hr.mono (by decide)) rfl (pa_cons (pv 0) pa_nil))) pa_nil))))))
      (pss_one (ps_ret (pv 2)))))), ?_⟩
    have S := Sd.here e0 hD
    -- found = []
    refine ⟨(by show 0 ≤ sizeLine; decide), fun p hp => ?_⟩
    have np := S.dr.ne hp
    have S := S.lay (.lst []) hp
    refine ⟨_, rfl, _, rfl, _, _, rfl, rfl, d, _, _, rfl, by omega, by omega, S.ex, S.dr, fun n H n0 n1 g hD => ?_⟩
    have hp1 := g.keep p _ upd_same (fun z => np z.symm)
    have h0p := g.new p (by rw [upd_same]; simp) (e0.free hp)
    have S := S.call g hD
    obtain ⟨n, rfl⟩ : ∃ k : Nat, n = (k : Int) := ⟨n.toNat, by omega⟩
    refine ⟨_, rfl, by omega, by omega, for_range (lo := 0) (n := n) (fun i σ H' => ∃ (v4 : Option V) (t : Int) (ps : List Addr) (evs : List (List V)) (G0 : Hp), σ = [some (.ref d), some (.int (m : Int)), some (.ref p), some (.int t), v4] ∧ 0 ≤ t ∧ t ≤ 999999 ∧ Sd d H0 B G0 H' ∧ H' p = some (.lst (ps.map V.ref)) ∧ G0 p = none ∧ Evs G0 ps evs ∧ evs.length = i ∧ (∀ xs ∈ evs, GoodEv xs) ∧ Rise evs ∧ (∀ xs ∈ evs, tickOf xs ≤ t))
      ⟨none, 0, [], [], _, rfl, by decide, by decide, S, hp1, h0p, Evs.nil _, rfl, (fun x h => nomatch h), (fun i x y h => by simp at h), (fun x h => nomatch h)⟩ ?_ ?_⟩
    · clear S hp1 h0p hD g
      rintro i σ H hi ⟨v4, t, ps, evs, G0, rfl, t0, t1, S, hpp, h0p, hev, hl, hg, hrise, hle⟩
      -- tick = min(999999, tick + gap_of(draw))
      refine ⟨_, rfl, _, rfl, d, _, rfl, S.ex, S.dr, fun z G0 H z0 z1 g hD => ?_⟩
      have h0p := g.new p (by rw [hpp]; simp) h0p
      have hpp := g.keep p _ hpp (fun z => np z.symm)
      have S := S.call g hD
      have hev := hev.up g.up
      refine ⟨_, _, rfl, rfl, _, _, rfl, ?_⟩
      obtain ⟨t', et, h1, h2, h3⟩ : ∃ t', (if t + z < 999999 then t + z else 999999) = t' ∧ t ≤ t' ∧ 0 ≤ t' ∧ t' ≤ 999999 := by
        refine ⟨_, rfl, ?_⟩
        split <;> omega
      rw [et]
      -- found.append((tick,) + thing(draw))
      refine ⟨_, rfl, .inl ⟨rfl, _, SqL.of hpp⟩, _, rfl, (by show 1 ≤ sizeLine; decide), fun a ha => ?_⟩
      have hap : p ≠ a := ne_of_none hpp ha
      have hpp : upd _ a (.tup [.int t']) p = _ := (upd_ne hap).trans hpp
      have h0p : upd _ a (.tup [.int t']) p = none := (upd_ne hap).trans h0p
      have hev := hev.up (Ex.new (o := .tup [.int t']) (S.ex.free ha))
      have S := S.put (.tup [.int t']) ha
      refine ⟨_, rfl, d, _, rfl, S.ex, S.dr, fun b ys G0 H ok sc ln g hD _ hb => ?_⟩
      have h0p := g.new p (by rw [hpp]; simp) h0p
      have hpp := g.keep p _ hpp (fun z => np z.symm)
      have hev := hev.up g.up
      have haa := g.up a _ upd_same
      have S := S.call g hD
      refine cat_x S haa hb (by show 1 + _ ≤ 1000; omega) fun c G1 H1 S1 x1 y1 k1 hc => ?_
      have h0p := k1 p (by rw [hpp]; simp) h0p
      have hpp := y1 _ _ hpp
      have hev := hev.up x1
      have S2 := S1.turn (.lst (ps.map V.ref ++ [.ref c])) hp h0p np
      have gd := good_mk h2 h3 ok ln
      refine ⟨p, _, _, rfl, rfl, hpp, mem_lt (by rw [List.length_map, hev.1]; omega), _, t', ps ++ [c], evs ++ [.int t' :: ys], G1, rfl, h2, h3, S2, ?_, h0p, hev.snoc hc, by rw [List.length_append, hl]; rfl, fun xs hx => ?_, fun j x y hx hy => ?_, fun xs hx => ?_⟩
      · rw [upd_same, List.map_append]
        rfl
      · rcases List.mem_append.mp hx with h | h
        · exact hg xs h
        · rw [List.mem_singleton.mp h]
          exact gd
      · have ly := (List.getElem?_eq_some_iff.mp hy).1
        rw [List.length_append] at ly
        have ly : j + 1 < evs.length + 1 := ly
        rw [List.getElem?_append_left (by omega)] at hx
        by_cases e : j + 1 < evs.length
        · rw [List.getElem?_append_left e] at hy
          exact hrise j x y hx hy
        · rw [List.getElem?_append_right (by omega), show j + 1 - evs.length = 0 by omega] at hy
          cases hy
          exact Int.le_trans (hle x (List.mem_of_getElem? hx)) h1
      · rcases List.mem_append.mp hx with h | h
        · exact Int.le_trans (hle xs h) h1
        · rw [List.mem_singleton.mp h]
          exact Int.le_refl _
    · rintro σ H ⟨v4, t, ps, evs, G0, rfl, t0, t1, S, hpp, h0p, hev, hl, hg, hrise, hle⟩
      exact ⟨_, rfl, q p ps evs _ _ S.go S.dr hp hpp h0p hev (by omega) hg hrise⟩
abbrev s_forms : Stmt := topS 12
theorem sc_forms : FnScope ["event", "head", "told", "sign"] ["event"] (defScope s_forms) := ⟨rfl, rfl, rfl, by decide +kernel, rfl, by decide +kernel, by decide +kernel⟩
def spForms : Sp := fun vs H Q _ => ∃ (a : Addr) (e : Evt) (H0 : Hp), vs = [.ref a] ∧ Ex H0 H ∧ H0 a = some (.tup e.v) ∧ e.Ok ∧
  ∀ (p : Addr) (rs : List Addr) (G H' : Hp), Go (fun _ => False) H0 H G H' → FmAt G p rs e.forms → H p = none → Q (.ref p) H'
theorem ok_forms {f d : Addr} {fd : FuncData} (F : Fun K "forms" "forms" s_forms f fd) (m_len : mg "len" = none) (m_ord : mg "ord" = none) (m_list : mg "list" = none) (c_HEADS : ∃ u, mg "HEADS" = some u ∧ L2.RelV (.ref d) u) (c_END_FORCE : ∃ u, mg "END_FORCE" = some u ∧ L2.RelV (.int 64) u) (HK : HeadsK K w d) : FnOk P w K mg base CX0 1 f fd ["event"] spForms := by
  refine F.ok sc_forms (fun vs H Q E h => ?_) (fun cdv A outer s B vs Q E hr h => ?_)
  · obtain ⟨a, e, H0, rfl, _⟩ := h
    rfl
  · obtain ⟨a, e, H0, rfl, e0, ha, ho, q⟩ := h
    refine ⟨_, (pss_cons (ps_set (i := 1) sc_forms.nd rfl (Or.inl rfl) (pe_ix (r := rIxD K w) ix_kdict (C8.pe_gc rfl c_HEADS) (pe_ix ix_tup (pv 0) pe_int (fun _ _ => rfl)) (fun _ _ => rfl)))
      (pss_cons (ps_if (pt_cmpR op_eq (pe_ix ix_tup (pv 0) pe_int (fun _ _ => rfl)) pe_str (nomark _)) (pss_one (ps_ret (pe_lst (pa_cons (pe_tup (pa_cons (pv 1) (pa_cons (pe_op op_cat (pe_lst (pa_cons (pe_callB call_len_str (by rfl) m_len PySem.boot_len (pa_cons (pe_ix ix_tup (pv 0) pe_int (fun _ _ => rfl)) pa_nil)) pa_nil)) (pe_lc (own := [("sign", 3)]) (g := gName 3) (tt := tYes) rfl sc_forms.nd (pi_str (pe_ix ix_tup (pv 0) pe_int (fun _ _ => rfl))) (blkOk_by (N := ["event", "head", "told", "sign"]) (sc := defScope s_forms) (by decide +kernel)) (fun _ _ _ _ _ => pg_name (i := 3) sc_forms.nd rfl (Or.inl rfl)) (fun _ _ _ _ _ => pts_nil) (fun _ _ _ _ _ => (pe_callB call_ord (by rfl) m_ord bt_ord (pa_cons (pv 3) pa_nil))))) pa_nil))) pa_nil)))) pss_nil)
      (pss_cons (ps_set (i := 2) sc_forms.nd rfl (Or.inl rfl) (pe_lst (pa_cons (pe_tup (pa_cons (pe_op op_add (pv 1) (pe_ix ix_tup (pv 0) pe_int (fun _ _ => rfl))) (pa_cons (pe_callTy call_list_of (by rfl) m_list bt_list (pa_cons (pe_slice sl_tup (pv 0) (po_some pe_int) po_none) pa_nil)) pa_nil))) pa_nil)))
      (pss_cons (ps_if (PW.pt (pw_and (pt_cmpR op_eq (pe_ix ix_tup (pv 0) pe_int (fun _ _ => rfl)) pe_str (nomark _)) (pw_and1 (pt_cmpR op_eq (pe_ix ix_tup (pv 0) pe_int (fun _ _ => rfl)) (C8.pe_gc rfl c_END_FORCE) (nomark _))))) (pss_one (ps_expr (pe_bm PySem.F.plainAttrs_list PySem.F.slot_list_append PySem.F.type_list_append mt_append (pv 2) (pa_cons (pe_tup (pa_cons (pe_op op_add (pe_ix (r := rIxD K w) ix_kdict (C8.pe_gc rfl c_HEADS) pe_str (fun _ _ => rfl)) (pe_ix ix_tup (pv 0) pe_int (fun _ _ => rfl))) (pa_cons (pe_lst (pa_cons (pe_ix ix_tup (pv 0) pe_int (fun _ _ => rfl)) (pa_cons pe_int pa_nil))) pa_nil))) pa_nil)))) pss_nil)
      (pss_one (ps_ret (pv 2))))))), ?_⟩
    have g0 := Go.refl (m := fun _ => False) e0
    cases e with
    | mark t s =>
      refine ⟨_, rfl, a, _, _, _, rfl, rfl, SqT.of (e0 _ _ ha), at_of (j := 1) rfl rfl, d, "mark", .int 240, rfl, rfl, HK.mark, ?_⟩
      refine ⟨_, rfl, a, _, _, _, rfl, rfl, SqT.of (e0 _ _ ha), at_of (j := 1) rfl rfl, rfl, _, rfl, ifT (by decide) ?_⟩
      refine ⟨_, rfl, ?_⟩
      refine ⟨_, rfl, a, _, _, _, rfl, rfl, SqT.of (e0 _ _ ha), at_of (j := 2) rfl rfl, s, rfl, mem_sz (Nat.le_trans ho.2.1 (by decide)), (by show 1 ≤ sizeLine; decide), fun l hl => ?_⟩
      have g1 := g0.put (.lst [.int (s.length : Int)]) hl
      have ha1 := upPut (o := .lst [.int (s.length : Int)]) (e0.free hl) ha
      have hll := upd_same (H := H0) (a := l) (o := HO.lst [.int (s.length : Int)])
      generalize upd H0 l (.lst [.int (s.length : Int)]) = G1 at *
      generalize upd B l (.lst [.int (s.length : Int)]) = B1 at *
      have zl : s.cps.toList.length ≤ 12 := by rw [Array.length_toList]; exact ho.2.1
      refine ⟨_, rfl, a, _, _, _, rfl, rfl, SqT.of (g1.inn _ _ ha1), at_of (j := 2) rfl rfl, s, rfl, fun D hD => lc_str (LcP D G1 B1 fun i => .int (s.cps.toList.getD i 0 : Nat)) (LcP.start (Go.refl g1.inn) hD) (fun i c H' hc p => ?_) (fun H' p => ?_)⟩
      · have hi := (List.getElem?_eq_some_iff.mp hc).1
        refine ⟨rfl, ?_⟩
        refine ⟨_, rfl, ⟨#[c]⟩, rfl, rfl, LcP.step (Go.refl g1.inn) hD p (by omega) (Go.refl p.2.inn) ?_⟩
        rw [List.getD_eq_getElem?_getD, hc]
        rfl
      · have pn : H' D = some (.lst ((s.cps.toList.map fun (c : Nat) => (c : Int)).map V.int)) := by
          rw [p.1, List.map_map]
          exact congrArg (fun l => some (HO.lst l)) (map_range _ _ _ fun i a h => by rw [List.getD_eq_getElem?_getD, h]; rfl)
        have g2 := g1.then p.2
        refine ⟨l, D, _, _, rfl, rfl, p.2.inn _ _ hll, pn, mem_sz (by rw [List.length_map, List.length_map]; show 1 + _ ≤ _; omega), fun c hc => ?_⟩
        have g3 := g2.put (.lst ([.int (s.length : Int)] ++ (s.cps.toList.map fun (c : Nat) => (c : Int)).map V.int)) hc
        refine ⟨(by show 2 ≤ sizeLine; decide), fun u hu => ?_⟩
        have g4 := g3.put (.tup [.int 240, .ref c]) hu
        have k1 := upPut (o := .tup [.int 240, .ref c]) (g3.inn.free hu) (upd_same (H := G1) (a := c) (o := HO.lst ([.int (s.length : Int)] ++ (s.cps.toList.map fun (c : Nat) => (c : Int)).map V.int)))
        refine ⟨(by show 1 ≤ sizeLine; decide), fun v hv => ?_⟩
        have g5 := g4.put (.lst [.ref u]) hv
        exact q v [u] _ _ g5 (FmAt.one upd_same (upPut (g4.inn.free hv) upd_same) (upPut (g4.inn.free hv) k1)) (g4.fresh hv)
    | key b t c k f =>
      cases b with
      | true =>
        refine ⟨_, rfl, a, _, _, _, rfl, rfl, SqT.of (e0 _ _ ha), at_of (j := 1) rfl rfl, d, "on", .int 144, rfl, rfl, HK.on, ?_⟩
        refine ⟨_, rfl, a, _, _, _, rfl, rfl, SqT.of (e0 _ _ ha), at_of (j := 1) rfl rfl, rfl, _, rfl, ifF (by decide) ?_⟩
        refine ⟨_, rfl, _, rfl, a, _, _, _, rfl, rfl, SqT.of (e0 _ _ ha), at_of (j := 2) rfl rfl, _, _, rfl, rfl, ?_⟩
        refine ⟨_, rfl, _, rfl, a, _, rfl, SqT.of (e0 _ _ ha), (fun z => absurd z.1 (by show ¬ HT.sIx 5 0 (some 3) = 0; decide)), fun s hs => ?_⟩
        rw [show cutV _ (some 3) none = ([.int k, .int f] : List V) from cutV_drop _ 3 (by show 3 ≤ 5; decide)]
        have g1 := g0.put (.tup [.int k, .int f]) hs
        have ha1 := upPut (o := .tup [.int k, .int f]) (g0.inn.free hs) ha
        refine ⟨s, _, rfl, .inr (SqT.of upd_same), fun l hl => ?_⟩
        have g2 := g1.put (.lst [.int k, .int f]) hl
        have ha2 := upPut (o := .lst [.int k, .int f]) (g1.inn.free hl) ha1
        have k2 := fun G : Hp => upd_same (H := G) (a := l) (o := HO.lst [.int k, .int f])
        refine ⟨(by show 2 ≤ sizeLine; decide), fun u hu => ?_⟩
        have g3 := g2.put (.tup [.int (144 + c), .ref l]) hu
        have ha3 := upPut (o := .tup [.int (144 + c), .ref l]) (g2.inn.free hu) ha2
        have k3 := upPut (o := .tup [.int (144 + c), .ref l]) (g2.inn.free hu) (k2 _)
        have u3 := fun G : Hp => upd_same (H := G) (a := u) (o := HO.tup [.int (144 + c), .ref l])
        refine ⟨(by show 1 ≤ sizeLine; decide), fun p hp => ?_⟩
        have g4 := g3.put (.lst [.ref u]) hp
        have bp := g3.fresh hp
        refine ⟨_, rfl, a, _, _, _, rfl, rfl, SqT.of (g4.inn _ _ (upPut (g3.inn.free hp) ha3)), at_of (j := 1) rfl rfl, rfl, _, rfl, ifF (by decide) ?_⟩
        exact ⟨_, rfl, q p [u] _ _ g4 (FmAt.one (h := 144 + c) (d := [k, f]) upd_same (upPut (g3.inn.free hp) (u3 _)) (upPut (g3.inn.free hp) k3)) bp⟩
      | false =>
        refine ⟨_, rfl, a, _, _, _, rfl, rfl, SqT.of (e0 _ _ ha), at_of (j := 1) rfl rfl, d, "off", .int 128, rfl, rfl, HK.off, ?_⟩
        refine ⟨_, rfl, a, _, _, _, rfl, rfl, SqT.of (e0 _ _ ha), at_of (j := 1) rfl rfl, rfl, _, rfl, ifF (by decide) ?_⟩
        refine ⟨_, rfl, _, rfl, a, _, _, _, rfl, rfl, SqT.of (e0 _ _ ha), at_of (j := 2) rfl rfl, _, _, rfl, rfl, ?_⟩
        refine ⟨_, rfl, _, rfl, a, _, rfl, SqT.of (e0 _ _ ha), (fun z => absurd z.1 (by show ¬ HT.sIx 5 0 (some 3) = 0; decide)), fun s hs => ?_⟩
        rw [show cutV _ (some 3) none = ([.int k, .int f] : List V) from cutV_drop _ 3 (by show 3 ≤ 5; decide)]
        have g1 := g0.put (.tup [.int k, .int f]) hs
        have ha1 := upPut (o := .tup [.int k, .int f]) (g0.inn.free hs) ha
        refine ⟨s, _, rfl, .inr (SqT.of upd_same), fun l hl => ?_⟩
        have g2 := g1.put (.lst [.int k, .int f]) hl
        have ha2 := upPut (o := .lst [.int k, .int f]) (g1.inn.free hl) ha1
        have k2 := fun G : Hp => upd_same (H := G) (a := l) (o := HO.lst [.int k, .int f])
        refine ⟨(by show 2 ≤ sizeLine; decide), fun u hu => ?_⟩
        have g3 := g2.put (.tup [.int (128 + c), .ref l]) hu
        have ha3 := upPut (o := .tup [.int (128 + c), .ref l]) (g2.inn.free hu) ha2
        have k3 := upPut (o := .tup [.int (128 + c), .ref l]) (g2.inn.free hu) (k2 _)
        have u3 := fun G : Hp => upd_same (H := G) (a := u) (o := HO.tup [.int (128 + c), .ref l])
        refine ⟨(by show 1 ≤ sizeLine; decide), fun p hp => ?_⟩
        have g4 := g3.put (.lst [.ref u]) hp
        have bp := g3.fresh hp
        refine ⟨_, rfl, a, _, _, _, rfl, rfl, SqT.of (g4.inn _ _ (upPut (g3.inn.free hp) ha3)), at_of (j := 1) rfl rfl, rfl, _, rfl, ifT (by decide) ?_⟩
        refine ⟨_, rfl, a, _, _, _, rfl, rfl, SqT.of (g4.inn _ _ (upPut (g3.inn.free hp) ha3)), at_of (j := 4) rfl rfl, rfl, _, rfl, ifD (fun c64 => ?_) (fun c64 => ?_)⟩
        · obtain rfl : f = 64 := V.int.inj c64
          clear g4
          have g4 := g3.lay (.lst [.ref u]) hp
          have a4 := g4.inn _ _ ha3
          refine ⟨_, rfl, .inl ⟨rfl, _, SqL.of upd_same⟩, d, "on", .int 144, rfl, rfl, HK.on, _, rfl, a, _, _, _, rfl, rfl, SqT.of a4, at_of (j := 2) rfl rfl, _, _, rfl, rfl, ?_⟩
          refine ⟨_, rfl, a, _, _, _, rfl, rfl, SqT.of a4, at_of (j := 3) rfl rfl, (by show 2 ≤ sizeLine; decide), fun b2 hb2 => ?_⟩
          have g5 := g4.put (.lst [.int k, .int 0]) hb2
          have npb : p ≠ b2 := ne_of_none upd_same hb2
          have hp5 := fun Hx : Hp => (upd_ne (H := upd Hx p (.lst [.ref u])) (o := HO.lst [.int k, .int 0]) npb).trans upd_same
          refine ⟨(by show 2 ≤ sizeLine; decide), fun u2 hu2 => ?_⟩
          have g6 := g5.put (.tup [.int (144 + c), .ref b2]) hu2
          have npu : p ≠ u2 := ne_of_none (hp5 _) hu2
          have hp6 := fun Hx : Hp => (upd_ne (H := upd (upd Hx p (.lst [.ref u])) b2 (.lst [.int k, .int 0])) (o := HO.tup [.int (144 + c), .ref b2]) npu).trans (hp5 Hx)
          have g0p : ∀ G : Hp, G p = none → upd (upd G b2 (.lst [.int k, .int 0])) u2 (.tup [.int (144 + c), .ref b2]) p = none := fun G n => by rw [upd_ne npu, upd_ne npb, n]
          have n6 := g0p _ (g3.inn.free hp)
          have k6 := upPut (o := .tup [.int (144 + c), .ref b2]) (g5.inn.free hu2) (upPut (o := .lst [.int k, .int 0]) (g4.inn.free hb2) k3)
          have u6 := upPut (o := .tup [.int (144 + c), .ref b2]) (g5.inn.free hu2) (upPut (o := .lst [.int k, .int 0]) (g4.inn.free hb2) (u3 _))
          have b6 := fun Hx : Hp => upd_same (H := Hx) (a := b2) (o := HO.lst [.int k, .int 0])
          refine ⟨p, _, _, rfl, rfl, hp6 _, mem_lt (by show 1 ≤ 1000000; decide), ?_⟩
          refine ⟨_, rfl, q p [u, u2] _ _ ((g6.turn (.lst ([.ref u] ++ [.ref u2])) bp n6).set bp upd_same n6) (FmAt.two (h := 128 + c) (d := [k, 64]) (h2 := 144 + c) (d2 := [k, 0]) upd_same (upPut n6 u6) (upPut n6 k6) (upPut n6 upd_same) (upPut n6 (upPut (g5.inn.free hu2) (b6 _)))) bp⟩
        · have ef : (Evt.key false t c k f).forms = [(128 + c, [k, f])] := by
            show (128 + c, [k, f]) :: (if f = 64 then [(144 + c, [k, 0])] else []) = _
            rw [if_neg fun z => c64 (by rw [z])]
          rw [ef] at q
          exact ⟨_, rfl, q p [u] _ _ g4 (FmAt.one (h := 128 + c) (d := [k, f]) upd_same (upPut (g3.inn.free hp) (u3 _)) (upPut (g3.inn.free hp) k3)) bp⟩
    | knob t c k v =>
      refine ⟨_, rfl, a, _, _, _, rfl, rfl, SqT.of (e0 _ _ ha), at_of (j := 1) rfl rfl, d, "knob", .int 160, rfl, rfl, HK.knob, ?_⟩
      refine ⟨_, rfl, a, _, _, _, rfl, rfl, SqT.of (e0 _ _ ha), at_of (j := 1) rfl rfl, rfl, _, rfl, ifF (by decide) ?_⟩
      refine ⟨_, rfl, _, rfl, a, _, _, _, rfl, rfl, SqT.of (e0 _ _ ha), at_of (j := 2) rfl rfl, _, _, rfl, rfl, ?_⟩
      refine ⟨_, rfl, _, rfl, a, _, rfl, SqT.of (e0 _ _ ha), (fun z => absurd z.1 (by show ¬ HT.sIx 5 0 (some 3) = 0; decide)), fun s hs => ?_⟩
      rw [show cutV _ (some 3) none = ([.int k, .int v] : List V) from cutV_drop _ 3 (by show 3 ≤ 5; decide)]
      have g1 := g0.put (.tup [.int k, .int v]) hs
      have ha1 := upPut (o := .tup [.int k, .int v]) (g0.inn.free hs) ha
      refine ⟨s, _, rfl, .inr (SqT.of upd_same), fun l hl => ?_⟩
      have g2 := g1.put (.lst [.int k, .int v]) hl
      have ha2 := upPut (o := .lst [.int k, .int v]) (g1.inn.free hl) ha1
      have k2 := fun G : Hp => upd_same (H := G) (a := l) (o := HO.lst [.int k, .int v])
      refine ⟨(by show 2 ≤ sizeLine; decide), fun u hu => ?_⟩
      have g3 := g2.put (.tup [.int (160 + c), .ref l]) hu
      have ha3 := upPut (o := .tup [.int (160 + c), .ref l]) (g2.inn.free hu) ha2
      have k3 := upPut (o := .tup [.int (160 + c), .ref l]) (g2.inn.free hu) (k2 _)
      have u3 := fun G : Hp => upd_same (H := G) (a := u) (o := HO.tup [.int (160 + c), .ref l])
      refine ⟨(by show 1 ≤ sizeLine; decide), fun p hp => ?_⟩
      have g4 := g3.put (.lst [.ref u]) hp
      have bp := g3.fresh hp
      refine ⟨_, rfl, a, _, _, _, rfl, rfl, SqT.of (g4.inn _ _ (upPut (g3.inn.free hp) ha3)), at_of (j := 1) rfl rfl, rfl, _, rfl, ifF (by decide) ?_⟩
      exact ⟨_, rfl, q p [u] _ _ g4 (FmAt.one (h := 160 + c) (d := [k, v]) upd_same (upPut (g3.inn.free hp) (u3 _)) (upPut (g3.inn.free hp) k3)) bp⟩
    | voice t c v =>
      refine ⟨_, rfl, a, _, _, _, rfl, rfl, SqT.of (e0 _ _ ha), at_of (j := 1) rfl rfl, d, "voice", .int 176, rfl, rfl, HK.voice, ?_⟩
      refine ⟨_, rfl, a, _, _, _, rfl, rfl, SqT.of (e0 _ _ ha), at_of (j := 1) rfl rfl, rfl, _, rfl, ifF (by decide) ?_⟩
      refine ⟨_, rfl, _, rfl, a, _, _, _, rfl, rfl, SqT.of (e0 _ _ ha), at_of (j := 2) rfl rfl, _, _, rfl, rfl, ?_⟩
      refine ⟨_, rfl, _, rfl, a, _, rfl, SqT.of (e0 _ _ ha), (fun z => absurd z.1 (by show ¬ HT.sIx 4 0 (some 3) = 0; decide)), fun s hs => ?_⟩
      rw [show cutV _ (some 3) none = ([.int v] : List V) from cutV_drop _ 3 (by show 3 ≤ 4; decide)]
      have g1 := g0.put (.tup [.int v]) hs
      have ha1 := upPut (o := .tup [.int v]) (g0.inn.free hs) ha
      refine ⟨s, _, rfl, .inr (SqT.of upd_same), fun l hl => ?_⟩
      have g2 := g1.put (.lst [.int v]) hl
      have ha2 := upPut (o := .lst [.int v]) (g1.inn.free hl) ha1
      have k2 := fun G : Hp => upd_same (H := G) (a := l) (o := HO.lst [.int v])
      refine ⟨(by show 2 ≤ sizeLine; decide), fun u hu => ?_⟩
      have g3 := g2.put (.tup [.int (176 + c), .ref l]) hu
      have ha3 := upPut (o := .tup [.int (176 + c), .ref l]) (g2.inn.free hu) ha2
      have k3 := upPut (o := .tup [.int (176 + c), .ref l]) (g2.inn.free hu) (k2 _)
      have u3 := fun G : Hp => upd_same (H := G) (a := u) (o := HO.tup [.int (176 + c), .ref l])
      refine ⟨(by show 1 ≤ sizeLine; decide), fun p hp => ?_⟩
      have g4 := g3.put (.lst [.ref u]) hp
      have bp := g3.fresh hp
      refine ⟨_, rfl, a, _, _, _, rfl, rfl, SqT.of (g4.inn _ _ (upPut (g3.inn.free hp) ha3)), at_of (j := 1) rfl rfl, rfl, _, rfl, ifF (by decide) ?_⟩
      exact ⟨_, rfl, q p [u] _ _ g4 (FmAt.one (h := 176 + c) (d := [v]) upd_same (upPut (g3.inn.free hp) (u3 _)) (upPut (g3.inn.free hp) k3)) bp⟩
end
end Rt

namespace Rt
open PySem PySem.Spec PyProof.Rows L2 RZ TL
section
variable {P : Program} {w : World} {K : PySem.W.Frag} {mg : Str → Option Value} {base : Heap}
abbrev s_gap_at : Stmt := topS 15
theorem sc_gap_at : FnScope ["track", "place", "ahead"] ["track", "place"] (defScope s_gap_at) := ⟨rfl, rfl, rfl, by decide +kernel, rfl, by decide +kernel, by decide +kernel⟩
/-- a track that is asked: at r, its events es -/
structure TrkH (H0 : Hp) (r : Addr) (ps : List Addr) (es : List Evt) : Prop where
  hr : H0 r = some (.lst (ps.map V.ref))
  hev : Evs H0 ps (es.map Evt.v)
  ok : ∀ e ∈ es, e.Ok
  sz : es.length ≤ 1000
theorem TrkH.at_ {H0 : Hp} {r : Addr} {ps : List Addr} {es : List Evt} (T : TrkH H0 r ps es) {i : Nat} (hi : i < es.length) : ∃ p e, (ps.map V.ref)[i]? = some (.ref p) ∧ es[i]? = some e ∧ H0 p = some (.tup e.v) ∧ e.Ok := by
  have he : es[i]? = some es[i] := List.getElem?_eq_getElem hi
  obtain ⟨p, xs, hp, hxs, hpx⟩ := T.hev.at_ (i := i) (by rw [List.length_map]; exact hi)
  rw [List.getElem?_map, he] at hxs
  cases hxs
  exact ⟨p, es[i], map_ref hp, he, hpx, T.ok _ (List.mem_of_getElem? he)⟩
theorem TrkH.up {H0 H1 : Hp} {r : Addr} {ps : List Addr} {es : List Evt} (T : TrkH H0 r ps es) (x : Ex H0 H1) : TrkH H1 r ps es := ⟨x _ _ T.hr, T.hev.up x, T.ok, T.sz⟩
theorem TrkH.lp {H0 : Hp} {r : Addr} {ps : List Addr} {es : List Evt} (T : TrkH H0 r ps es) : (ps.map V.ref).length = es.length := by rw [List.length_map, T.hev.len]
theorem tick_at {e : Evt} : e.v[0]? = some (.int e.tick) := by cases e <;> rfl
def spGapAt : Sp := fun vs H Q _ => ∃ (r : Addr) (i : Nat) (ps : List Addr) (es : List Evt) (e : Evt) (H0 : Hp), vs = [.ref r, .int (i : Int)] ∧ Ex H0 H ∧ TrkH H0 r ps es ∧ Up es ∧ es[i]? = some e ∧
  ∀ (p : Addr) (H' : Hp), Go (fun _ => False) H0 H H0 H' → H p = none → H' p = some (.lst (nums (gapB (e.tick - tickAt es i).toNat))) → Q (.ref p) H'
theorem ok_gap_at {f : Addr} {fd : FuncData} (F : Fun K "gap_at" "gap_at" s_gap_at f fd) (D_gap_bytes : Def P w K mg base "gap_bytes" 1 spGapBytes) : FnOk P w K mg base CX0 2 f fd ["track", "place"] spGapAt := by
  refine F.ok sc_gap_at (fun vs H Q E h => ?_) (fun cdv A outer s B vs Q E hr h => ?_)
  · obtain ⟨r, i, ps, es, e, H0, rfl, _⟩ := h
    rfl
  · obtain ⟨r, i, ps, es, e, H0, rfl, e0, T, hup, he, q⟩ := h
    refine ⟨_, (pss_cons (ps_set (i := 2) sc_gap_at.nd rfl (Or.inl rfl) (pe_ifExp (pt_cmpR op_gt (pv 1) pe_int (nomark _)) (pe_ix ix_tup (pe_ix ix_list (pv 0) (pe_op op_sub (pv 1) pe_int) (fun _ _ => rfl)) pe_int (fun _ _ => rfl)) pe_int))
      (pss_one (ps_ret (pe_d D_gap_bytes (hr.mono (by decide)) rfl (pa_cons (pe_op op_sub (pe_ix ix_tup (pe_ix ix_list (pv 0) (pv 1) (fun _ _ => rfl)) pe_int (fun _ _ => rfl)) (pv 2)) pa_nil))))), ?_⟩
    have hi := (List.getElem?_eq_some_iff.mp he).1
    have hsz := T.sz
    obtain ⟨p, e', hp, he', hpx, ho⟩ := T.at_ hi
    obtain rfl : e = e' := by rw [he] at he'; exact Option.some.inj he'
    have t0 := tickAt_ok T.ok i
    have t1 := hup i e he
    have t2 := ho.tk
    have rest : ∀ a : Int, a = tickAt es i → ∃ n : Nat, e.tick - a = (n : Int) ∧ n = (e.tick - tickAt es i).toNat ∧ n < 268435456 := fun a ea => ⟨(e.tick - tickAt es i).toNat, by omega, rfl, by omega⟩
    refine ⟨_, rfl, _, _, rfl, rfl, _, rfl, ifD (fun c => ?_) (fun c => ?_)⟩
    · obtain ⟨j, rfl⟩ : ∃ j, i = j + 1 := ⟨i - 1, by omega⟩
      obtain ⟨p2, e2, hp2, he2, hpx2, ho2⟩ := T.at_ (i := j) (by omega)
      have ht : tickAt es (j + 1) = e2.tick := by
        show (match es[j]? with | some e => e.tick | none => 0) = _
        rw [he2]
      obtain ⟨n, en, en2, nl⟩ := rest e2.tick ht.symm
      refine ⟨_, rfl, _, rfl, _, _, rfl, rfl, r, _, _, _, rfl, rfl, SqL.of (e0 _ _ T.hr), at_n (j := j) (by omega) hp2, p2, _, _, _, rfl, rfl, SqT.of (e0 _ _ hpx2), at_of (j := 0) rfl tick_at, ?_⟩
      refine ⟨_, rfl, _, rfl, r, _, _, _, rfl, rfl, SqL.of (e0 _ _ T.hr), at_n (j := j + 1) rfl hp, p, _, _, _, rfl, rfl, SqT.of (e0 _ _ hpx), at_of (j := 0) rfl tick_at, _, rfl, _, _, rfl, rfl, n, H0, congrArg (fun z => [V.int z]) en, nl, e0, fun l H' g h1 h2 => q l H' g h1 (by rw [h2, en2])⟩
    · obtain rfl : i = 0 := by omega
      obtain ⟨n, en, en2, nl⟩ := rest 0 rfl
      refine ⟨_, rfl, _, rfl, r, _, _, _, rfl, rfl, SqL.of (e0 _ _ T.hr), at_n (j := 0) rfl hp, p, _, _, _, rfl, rfl, SqT.of (e0 _ _ hpx), at_of (j := 0) rfl tick_at, _, rfl, _, _, rfl, rfl, n, H0, congrArg (fun z => [V.int z]) en, nl, e0, fun l H' g h1 h2 => q l H' g h1 (by rw [h2, en2])⟩
abbrev s_heads_at : Stmt := topS 16
theorem sc_heads_at : FnScope ["track", "place", "head", "_"] ["track", "place"] (defScope s_heads_at) := ⟨rfl, rfl, rfl, by decide +kernel, rfl, by decide +kernel, by decide +kernel⟩
def spHeadsAt : Sp := fun vs H Q _ => ∃ (r : Addr) (i : Nat) (ps : List Addr) (es : List Evt) (H0 : Hp), vs = [.ref r, .int (i : Int)] ∧ Ex H0 H ∧ TrkH H0 r ps es ∧ i ≤ es.length ∧
  ∀ (p : Addr) (G H' : Hp), Go (fun _ => False) H0 H G H' → H p = none → G p = some (.lst ((headsAt es i).map V.int)) → Q (.ref p) H'
theorem ok_heads_at {f : Addr} {fd : FuncData} (F : Fun K "heads_at" "heads_at" s_heads_at f fd) (D_forms : Def P w K mg base "forms" 1 spForms) (D_left_by : Def P w K mg base "left_by" 1 spLeft) (c_NO_HEAD : ∃ u, mg "NO_HEAD" = some u ∧ L2.RelV (.int 0) u) : FnOk P w K mg base CX0 2 f fd ["track", "place"] spHeadsAt := by
  refine F.ok sc_heads_at (fun vs H Q E h => ?_) (fun cdv A outer s B vs Q E hr h => ?_)
  · obtain ⟨r, i, ps, es, H0, rfl, _⟩ := h
    rfl
  · obtain ⟨r, i, ps, es, H0, rfl, e0, T, hi, q⟩ := h
    refine ⟨_, (pss_cons (ps_if (pt_cmpR op_eq (pv 1) pe_int (nomark _)) (pss_one (ps_ret (pe_lst (pa_cons (C8.pe_gc rfl c_NO_HEAD) pa_nil)))) pss_nil)
      (pss_one (ps_ret (pe_lc (own := [("head", 2), ("_", 3)]) (g := gTup K 2 (gCons (gName 2) (gCons (gName 3) gNil))) (tt := tYes) rfl sc_heads_at.nd (pi_list (pe_d D_forms (hr.mono (by decide)) rfl (pa_cons (pe_ix ix_list (pv 0) (pe_op op_sub (pv 1) pe_int) (fun _ _ => rfl)) pa_nil))) (blkOk_by (N := ["track", "place", "head", "_"]) (sc := defScope s_heads_at) (by decide +kernel)) (fun _ _ _ _ _ => (pg_tup rfl (pgs_cons (pg_name (i := 2) sc_heads_at.nd rfl (Or.inl rfl)) (pgs_cons (pg_name (i := 3) sc_heads_at.nd rfl (Or.inl rfl)) pgs_nil)))) (fun _ _ _ _ _ => pts_nil) (fun _ _ _ _ _ => (pe_d D_left_by (hr.mono (by decide)) rfl (pa_cons (pv 2) pa_nil))))))), ?_⟩
    have g0 := Go.refl (m := fun _ => False) e0
    have hsz := T.sz
    refine ⟨_, rfl, rfl, _, rfl, ifD (fun c => ?_) (fun c => ?_)⟩
    · obtain rfl : i = 0 := by have := V.int.inj c; omega
      refine ⟨(by show 1 ≤ sizeLine; decide), fun p hp => ?_⟩
      exact q p _ _ (g0.put (.lst [.int 0]) hp) hp upd_same
    · obtain ⟨j, rfl⟩ : ∃ j, i = j + 1 := ⟨i - 1, by have : i ≠ 0 := fun z => c (by rw [z]; rfl); omega⟩
      obtain ⟨p, e, hp, he, hpx, ho⟩ := T.at_ (i := j) (by omega)
      refine ⟨_, rfl, _, rfl, _, _, rfl, rfl, r, _, _, _, rfl, rfl, SqL.of (e0 _ _ T.hr), at_n (j := j) (by omega) hp, p, e, H0, rfl, e0, hpx, ho, fun l rs G H1 g1 fm hl => ?_⟩
      refine ⟨l, rfl, ⟨_, SqL.of (g1.inn _ _ fm.hp)⟩, fun D hD => lc_list (xs := rs.map V.ref) (LcP D G H1 fun j => .int (left (e.forms.getD j (0, [])).1)) (LcP.start (Go.refl g1.inn) hD) (fun i H' _ p => SqL.of (p.2.inn _ _ fm.hp)) (fun i x H' hx p => ?_) (fun H' p => ?_)⟩
      · have hir : i < rs.length := by
          have := (List.getElem?_eq_some_iff.mp hx).1
          rwa [List.length_map] at this
        have hr : rs[i]? = some rs[i] := List.getElem?_eq_getElem hir
        have hif : i < e.forms.length := by rw [← fm.ln]; exact hir
        have hf : e.forms[i]? = some e.forms[i] := List.getElem?_eq_getElem hif
        obtain ⟨b, h1, h2⟩ := fm.at_ i _ _ hr hf
        rw [map_ref hr] at hx
        obtain rfl := Option.some.inj hx
        have hfl := (forms_len e).2
        refine ⟨rs[i], _, rfl, SqT.of (p.2.inn _ _ h1), rfl, _, _, rfl, _, _, rfl, rfl, rfl, ?_⟩
        refine ⟨_, rfl, _, rfl, LcP.step (Go.refl g1.inn) hD p (by have := fm.ln; omega) (Go.refl p.2.inn) ?_⟩
        rw [List.getD_eq_getElem?_getD, hf]
        rfl
      · have lr : (rs.map V.ref).length = e.forms.length := by rw [List.length_map, fm.ln]
        have pn : H' D = some (.lst ((headsAt es (j + 1)).map V.int)) := by
          have eh : headsAt es (j + 1) = e.forms.map fun f => left f.1 := by
            show (match es[j]? with | some e => headsOf e | none => []) = _
            rw [he]
            rfl
          rw [p.1, eh, List.map_map, lr]
          exact congrArg (fun l => some (HO.lst l)) (map_range _ _ _ fun i a h => by rw [List.getD_eq_getElem?_getD, h]; rfl)
        have g2 := g1.then p.2
        exact q D _ _ (g2.set (g1.fresh hD) pn (g1.fresh0 hD)) (g1.fresh hD) upd_same
abbrev s_form_cost : Stmt := topS 17
theorem sc_form_cost : FnScope ["form", "ahead", "after", "head", "data"] ["form", "ahead", "after"] (defScope s_form_cost) := ⟨rfl, rfl, rfl, by decide +kernel, rfl, by decide +kernel, by decide +kernel⟩
def spFormCost : Sp := fun vs H Q _ => ∃ (r : Addr) (a : Int) (d : Addr) (x : Fm) (f : Int → Option Int) (c : Int), vs = [.ref r, .int a, .ref d] ∧ FmOne H r x ∧ DictI H d f ∧ f (left x.1) = some c ∧ x.2.length ≤ 1000 ∧ Q (.int (hcost a x.1 + (x.2.length : Int) + c)) H
theorem ok_form_cost {f : Addr} {fd : FuncData} (F : Fun K "form_cost" "form_cost" s_form_cost f fd) (D_head_cost : Def P w K mg base "head_cost" 1 spHcost) (D_left_by : Def P w K mg base "left_by" 1 spLeft) (m_len : mg "len" = none) : FnOk P w K mg base CX0 2 f fd ["form", "ahead", "after"] spFormCost := by
  refine F.ok sc_form_cost (fun vs H Q E h => ?_) (fun cdv A outer s H vs Q E hr h => ?_)
  · obtain ⟨r, a, d, x, f, c, rfl, _⟩ := h
    rfl
  · obtain ⟨r, a, d, x, f, c, rfl, ⟨b, h1, h2⟩, hd, hc, hl, q⟩ := h
    refine ⟨_, (pss_cons (ps_asg (pv 0) (pg_tup rfl (pgs_cons (pg_name (i := 3) sc_form_cost.nd rfl (Or.inl rfl)) (pgs_cons (pg_name (i := 4) sc_form_cost.nd rfl (Or.inl rfl)) pgs_nil))))
      (pss_one (ps_ret (pe_op op_add (pe_op op_add (pe_d D_head_cost (hr.mono (by decide)) rfl (pa_cons (pv 1) (pa_cons (pv 3) pa_nil))) (pe_callB call_len_seq (by rfl) m_len PySem.boot_len (pa_cons (pv 4) pa_nil))) (pe_dget (hu_of hr) (pv 2) (pe_d D_left_by (hr.mono (by decide)) rfl (pa_cons (pv 3) pa_nil)) (fun _ _ => rfl)))))), ?_⟩
    refine ⟨_, rfl, r, _, rfl, SqT.of h1, rfl, _, _, rfl, _, _, rfl, rfl, ?_⟩
    refine ⟨_, rfl, _, rfl, a, x.1, rfl, _, rfl, b, _, rfl, .inl (SqL.of h2), _, _, rfl, rfl, ?_⟩
    refine ⟨_, rfl, _, rfl, x.1, rfl, d, _, rfl, hd.get hc, _, _, rfl, rfl, ?_⟩
    rw [List.length_map]
    exact q
end
end Rt

namespace Rt
open PySem PySem.Spec PyProof.Rows L2 RZ TL
section
variable {P : Program} {w : World} {K : PySem.W.Frag} {mg : Str → Option Value} {base : Heap}
abbrev s_best_form : Stmt := topS 18
theorem sc_best_form : FnScope ["event", "ahead", "after", "best", "others", "form"] ["event", "ahead", "after"] (defScope s_best_form) := ⟨rfl, rfl, rfl, by decide +kernel, rfl, by decide +kernel, by decide +kernel⟩
def spBest : Sp := fun vs H Q _ => ∃ (a d : Addr) (ah : Int) (e : Evt) (f : Int → Option Int) (c : Int → Int) (H0 : Hp), vs = [.ref a, .int ah, .ref d] ∧ Ex H0 H ∧ H0 a = some (.tup e.v) ∧ e.Ok ∧ DictI H0 d f ∧ (∀ x ∈ e.forms, f (left x.1) = some (c (left x.1))) ∧
  ∀ (r : Addr) (G H' : Hp), Go (fun _ => False) H0 H G H' → FmOne G r (bestF (fcost ah c) e.forms) → Q (.ref r) H'
theorem forms_data {e : Evt} (h : e.Ok) {x : Fm} (hx : x ∈ e.forms) : x.2.length ≤ 20 := by
  cases e with
  | key b t c k f =>
    cases b with
    | true =>
      rw [List.mem_singleton.mp (show x ∈ [((144 + c, [k, f]) : Fm)] from hx)]
      show 2 ≤ 20; decide
    | false =>
      have hx : x ∈ ((128 + c, [k, f]) : Fm) :: (if f = 64 then [(144 + c, [k, 0])] else []) := hx
      rcases List.mem_cons.mp hx with rfl | hx
      · show 2 ≤ 20; decide
      · split at hx
        · rw [List.mem_singleton.mp hx]
          show 2 ≤ 20; decide
        · cases hx
  | knob t c k v =>
    rw [List.mem_singleton.mp (show x ∈ [((160 + c, [k, v]) : Fm)] from hx)]
    show 2 ≤ 20; decide
  | voice t c v =>
    rw [List.mem_singleton.mp (show x ∈ [((176 + c, [v]) : Fm)] from hx)]
    show 1 ≤ 20; decide
  | mark t s =>
    rw [List.mem_singleton.mp (show x ∈ [((240, (s.length : Int) :: s.cps.toList.map fun (c : Nat) => (c : Int)) : Fm)] from hx)]
    show (s.cps.toList.map _).length + 1 ≤ 20
    rw [List.length_map, Array.length_toList]
    have := h.2.1
    have e : s.cps.size = s.length := rfl
    omega
theorem FmAt.mem {G : Hp} {p : Addr} {rs : List Addr} {fs : List Fm} (h : FmAt G p rs fs) {i : Nat} {v : V} (hv : (rs.map V.ref)[i]? = some v) : ∃ r x, v = .ref r ∧ rs[i]? = some r ∧ fs[i]? = some x ∧ FmOne G r x := by
  have hi : i < rs.length := by
    have := (List.getElem?_eq_some_iff.mp hv).1
    rwa [List.length_map] at this
  have hif : i < fs.length := by rw [← h.ln]; exact hi
  have hr : rs[i]? = some rs[i] := List.getElem?_eq_getElem hi
  have hf : fs[i]? = some fs[i] := List.getElem?_eq_getElem hif
  rw [map_ref hr] at hv
  exact ⟨_, _, (Option.some.inj hv).symm, hr, hf, h.at_ i _ _ hr hf⟩
theorem ok_best_form {f : Addr} {fd : FuncData} (F : Fun K "best_form" "best_form" s_best_form f fd) (D_forms : Def P w K mg base "forms" 1 spForms) (D_form_cost : Def P w K mg base "form_cost" 2 spFormCost) : FnOk P w K mg base CX0 3 f fd ["event", "ahead", "after"] spBest := by
  refine F.ok sc_best_form (fun vs H Q E h => ?_) (fun cdv A outer s B vs Q E hr h => ?_)
  · obtain ⟨a, d, ah, e, f, c, H0, rfl, _⟩ := h
    rfl
  · obtain ⟨a, d, ah, e, f, c, H0, rfl, e0, ha, ho, hd, hc, q⟩ := h
    refine ⟨_, (pss_cons (ps_asg (pe_d D_forms (hr.mono (by decide)) rfl (pa_cons (pv 0) pa_nil)) (pg_star rfl (pgs_cons (pg_name (i := 3) sc_best_form.nd rfl (Or.inl rfl)) (pgs_star (pg_name (i := 4) sc_best_form.nd rfl (Or.inl rfl)) pgs_nil))))
      (pss_cons (ps_for PassesOwn.never rfl (pi_list (pv 4)) (pg_name (i := 5) sc_best_form.nd rfl (Or.inl rfl)) (pss_one (ps_if (pt_cmpR op_lt (pe_d D_form_cost (hr.mono (by decide)) rfl (pa_cons (pv 5) (pa_cons (pv 1) (pa_cons (pv 2) pa_nil)))) (pe_d D_form_cost (hr.mono (by decide)) rfl (pa_cons (pv 3) (pa_cons (pv 1) (pa_cons (pv 2) pa_nil)))) (nomark _)) (pss_one (ps_set (i := 3) sc_best_form.nd rfl (Or.inl rfl) (pv 5))) pss_nil)))
      (pss_one (ps_ret (pv 3))))), ?_⟩
    refine ⟨_, rfl, a, e, H0, rfl, e0, ha, ho, fun l rs G H1 g1 fm hl => ?_⟩
    have fl := forms_len e
    have fd := fun {x : Fm} (hx : x ∈ e.forms) => forms_data ho hx
    generalize e.forms = fs at *
    match fs, rs, fl, fm with
    | x :: xs, r0 :: rs, fl, fm =>
      have f0 : FmOne G r0 x := fm.at_ 0 r0 x rfl rfl
      have lrs : rs.length = xs.length := by have := fm.ln; simpa using this
      refine ⟨l, .ref r0, rs.map V.ref, rfl, SqL.of (g1.inn _ _ fm.hp), fun D hD => ?_⟩
      refine ⟨_, _, rfl, _, _, rfl, rfl, ?_⟩
      have g2 := g1.put (.lst (rs.map V.ref)) hD
      have x2 : Ex G _ := Ex.new (o := .lst (rs.map V.ref)) (g1.inn.free hD)
      have hDD := upd_same (H := G) (a := D) (o := HO.lst (rs.map V.ref))
      generalize upd G D (.lst (rs.map V.ref)) = G2 at *
      generalize upd H1 D (.lst (rs.map V.ref)) = H2 at *
      have hd2 := hd.up (g1.up.trans x2)
      refine ⟨_, rfl, D, rfl, ⟨_, SqL.of (g2.inn _ _ hDD)⟩, for_list (xs := rs.map V.ref) (fun i σ H' => ∃ (v5 : Option V) (r : Addr), σ = [some (.ref a), some (.int ah), some (.ref d), some (.ref r), some (.ref D), v5] ∧ H' = H2 ∧ (xs.take i).foldl (fun b y => if fcost ah c y < fcost ah c b then y else b) x ∈ x :: xs ∧ FmOne G2 r ((xs.take i).foldl (fun b y => if fcost ah c y < fcost ah c b then y else b) x))
        ⟨none, r0, rfl, rfl, .head _, f0.up x2⟩ (fun i σ H' _ ⟨_, _, _, eH, _⟩ => by rw [eH]; exact SqL.of (g2.inn _ _ hDD)) (fun i v σ H' hv hp => ?_) (fun σ H' hp => ?_)⟩
      · obtain ⟨v5, r, rfl, rfl, hin, hr⟩ := hp
        have hi : i < rs.length := by
          have := (List.getElem?_eq_some_iff.mp hv).1
          rwa [List.length_map] at this
        have hri : rs[i]? = some rs[i] := List.getElem?_eq_getElem hi
        have hxi : xs[i]? = some xs[i] := List.getElem?_eq_getElem (by omega)
        have fi : FmOne G2 rs[i] xs[i] := (fm.at_ (i + 1) rs[i] xs[i] hri hxi).up x2
        rw [map_ref hri] at hv
        obtain rfl := Option.some.inj hv
        have hxm : xs[i] ∈ x :: xs := .tail _ (List.mem_of_getElem? hxi)
        have H2x := g2.inn
        refine ⟨_, rfl, _, rfl, _, rfl, rs[i], ah, d, xs[i], f, _, rfl, fi.up H2x, hd2.up H2x, hc _ hxm, Nat.le_trans (fd hxm) (by decide), ?_⟩
        refine ⟨_, rfl, _, rfl, _, rfl, r, ah, d, _, f, _, rfl, hr.up H2x, hd2.up H2x, hc _ hin, Nat.le_trans (fd hin) (by decide), ?_⟩
        have step : (xs.take (i + 1)).foldl (fun b y => if fcost ah c y < fcost ah c b then y else b) x = (if fcost ah c xs[i] < fcost ah c ((xs.take i).foldl (fun b y => if fcost ah c y < fcost ah c b then y else b) x) then xs[i] else (xs.take i).foldl (fun b y => if fcost ah c y < fcost ah c b then y else b) x) := by
          rw [take_snoc hxi, List.foldl_append]
          rfl
        refine ⟨_, _, rfl, rfl, _, rfl, ifD (fun c2 => ?_) (fun c2 => ?_)⟩
        · have c2 : fcost ah c xs[i] < fcost ah c ((xs.take i).foldl (fun b y => if fcost ah c y < fcost ah c b then y else b) x) := c2
          refine ⟨_, rfl, some (.ref rs[i]), rs[i], rfl, rfl, ?_, ?_⟩
          · rw [step, if_pos c2]
            exact hxm
          · rw [step, if_pos c2]
            exact fi
        · have c2 : ¬ fcost ah c xs[i] < fcost ah c ((xs.take i).foldl (fun b y => if fcost ah c y < fcost ah c b then y else b) x) := c2
          refine ⟨some (.ref rs[i]), r, rfl, rfl, ?_, ?_⟩
          · rw [step, if_neg c2]
            exact hin
          · rw [step, if_neg c2]
            exact hr
      · obtain ⟨v5, r, rfl, rfl, hin, hr⟩ := hp
        have ln : (rs.map V.ref).length = xs.length := by rw [List.length_map, lrs]
        rw [ln, List.take_length] at hr
        exact ⟨_, rfl, q r G2 _ g2 hr⟩
    | [], rs, fl, fm => exact absurd fl.1 (by decide)
    | x :: xs, [], fl, fm => exact absurd fm.ln (by simp)
abbrev s_prices_at : Stmt := topS 20
theorem sc_prices_at : FnScope ["track", "place", "after", "told", "gap", "ahead", "form"] ["track", "place", "after"] (defScope s_prices_at) := ⟨rfl, rfl, rfl, by decide +kernel, rfl, by decide +kernel, by decide +kernel⟩
/-- pairs of numbers, at the addresses -/
def Prs (G : Hp) (rs : List Addr) (l : List (Int × Int)) : Prop := rs.length = l.length ∧ ∀ (i : Nat) (r : Addr) (x : Int × Int), rs[i]? = some r → l[i]? = some x → G r = some (.tup [.int x.1, .int x.2])
theorem Prs.nil (G : Hp) : Prs G [] [] := ⟨rfl, fun i r x h => by simp at h⟩
theorem Prs.up {G G' : Hp} {rs : List Addr} {l : List (Int × Int)} (h : Prs G rs l) (x : Ex G G') : Prs G' rs l := ⟨h.1, fun i r y h1 h2 => x _ _ (h.2 i r y h1 h2)⟩
theorem Prs.snoc {G : Hp} {rs : List Addr} {l : List (Int × Int)} {r : Addr} {x : Int × Int} (h : Prs G rs l) (hr : G r = some (.tup [.int x.1, .int x.2])) : Prs G (rs ++ [r]) (l ++ [x]) := by
  refine ⟨by rw [List.length_append, List.length_append, h.1]; rfl, fun i q y h1 h2 => ?_⟩
  by_cases hi : i < rs.length
  · rw [List.getElem?_append_left hi] at h1
    rw [List.getElem?_append_left (by rw [← h.1]; exact hi)] at h2
    exact h.2 i q y h1 h2
  · rw [List.getElem?_append_right (by omega)] at h1
    rw [List.getElem?_append_right (by rw [← h.1]; omega), ← h.1] at h2
    generalize i - rs.length = j at h1 h2
    match j, h1, h2 with
    | 0, h1, h2 =>
      cases h1
      cases h2
      exact hr
    | k + 1, h1, _ => simp at h1
theorem headsAt_succ {es : List Evt} {i : Nat} {e : Evt} (he : es[i]? = some e) : headsAt es (i + 1) = e.forms.map fun f => left f.1 := by
  show (match es[i]? with | some e => headsOf e | none => []) = _
  rw [he]
  rfl
theorem left_in {es : List Evt} {i : Nat} {e : Evt} (he : es[i]? = some e) {x : Fm} (hx : x ∈ e.forms) : left x.1 ∈ headsAt es (i + 1) := by
  rw [headsAt_succ he]
  exact List.mem_map.mpr ⟨x, hx, rfl⟩
def spPricesAt : Sp := fun vs H Q _ => ∃ (r d : Addr) (i : Nat) (ps : List Addr) (es : List Evt) (e : Evt) (f : Int → Option Int) (H0 : Hp), vs = [.ref r, .int (i : Int), .ref d] ∧ Ex H0 H ∧ TrkH H0 r ps es ∧ Up es ∧ es[i]? = some e ∧ DictI H0 d f ∧ (∀ k ∈ headsAt es (i + 1), f k = some (pcAt es (i + 1) k)) ∧
  ∀ (p : Addr) (rs : List Addr) (G H' : Hp), Go (fun _ => False) H0 H G H' → H p = none → G p = none → H' p = some (.lst (rs.map V.ref)) → Prs G rs (rowAt es i) → Q (.ref p) H'
theorem ok_prices_at {f : Addr} {fd : FuncData} (F : Fun K "prices_at" "prices_at" s_prices_at f fd) (D_gap_at : Def P w K mg base "gap_at" 2 spGapAt) (D_heads_at : Def P w K mg base "heads_at" 2 spHeadsAt) (D_best_form : Def P w K mg base "best_form" 3 spBest) (D_form_cost : Def P w K mg base "form_cost" 2 spFormCost) (m_len : mg "len" = none) : FnOk P w K mg base CX0 4 f fd ["track", "place", "after"] spPricesAt := by
  refine F.ok sc_prices_at (fun vs H Q E h => ?_) (fun cdv A outer s B vs Q E hr h => ?_)
  · obtain ⟨r, d, i, ps, es, e, f, H0, rfl, _⟩ := h
    rfl
  · obtain ⟨r, d, i, ps, es, e, f, H0, rfl, e0, T, hup, he, hd, hf, q⟩ := h
    refine ⟨_, (pss_cons (ps_set (i := 3) sc_prices_at.nd rfl (Or.inl rfl) (pe_lst pa_nil))
      (pss_cons (ps_set (i := 4) sc_prices_at.nd rfl (Or.inl rfl) (pe_callB call_len_seq (by rfl) m_len PySem.boot_len (pa_cons (pe_d D_gap_at (hr.mono (by decide)) rfl (pa_cons (pv 0) (pa_cons (pv 1) pa_nil))) pa_nil)))
      (pss_cons (ps_for PassesOwn.never rfl (pi_list (pe_d D_heads_at (hr.mono (by decide)) rfl (pa_cons (pv 0) (pa_cons (pv 1) pa_nil)))) (pg_name (i := 5) sc_prices_at.nd rfl (Or.inl rfl)) (pss_cons (ps_set (i := 6) sc_prices_at.nd rfl (Or.inl rfl) (pe_d D_best_form (hr.mono (by decide)) rfl (pa_cons (pe_ix ix_list (pv 0) (pv 1) (fun _ _ => rfl)) (pa_cons (pv 5) (pa_cons (pv 2) pa_nil)))))
      (pss_one (ps_expr (pe_bm PySem.F.plainAttrs_list PySem.F.slot_list_append PySem.F.type_list_append mt_append (pv 3) (pa_cons (pe_tup (pa_cons (pv 5) (pa_cons (pe_op op_add (pv 4) (pe_d D_form_cost (hr.mono (by decide)) rfl (pa_cons (pv 6) (pa_cons (pv 5) (pa_cons (pv 2) pa_nil))))) pa_nil))) pa_nil))))))
      (pss_one (ps_ret (pv 3)))))), ?_⟩
    have hi := (List.getElem?_eq_some_iff.mp he).1
    obtain ⟨pe, e', hpe, he', hpx, ho⟩ := T.at_ hi
    obtain rfl : e = e' := by rw [he] at he'; exact Option.some.inj he'
    have g0 := Go.refl (m := fun _ => False) e0
    -- told = []
    refine ⟨(by show 0 ≤ sizeLine; decide), fun p hp => ?_⟩
    have g1 := g0.lay (.lst []) hp
    have bp := g0.fresh hp
    have n0 := g0.fresh0 hp
    -- gap = len(gap_at(track, place))
    refine ⟨_, rfl, _, rfl, r, i, ps, es, e, H0, rfl, g1.inn, T, hup, he, fun l H2 g2 hl hl2 => ?_⟩
    have h2 := g2.keep p _ upd_same fun z => z
    have g2 := g1.then g2
    refine ⟨l, _, rfl, .inl (SqL.of hl2), ?_⟩
    have gl : ((nums (gapB (e.tick - tickAt es i).toNat)).length : Int) = gapL (e.tick - tickAt es i) := by
      rw [nums_len]
      rfl
    rw [gl]
    -- for ahead in heads_at(track, place)
    refine ⟨_, rfl, _, rfl, r, i, ps, es, H0, rfl, g2.inn, T, Nat.le_of_lt hi, fun hh G3 H3 g3 hh1 hh2 => ?_⟩
    have h3 := g3.keep p _ h2 fun z => z
    have n3 := g3.new p (by rw [h2]; simp) n0
    have g3 := g2.then g3
    clear h2 g2 g1 hl hl2
    refine ⟨hh, rfl, ⟨_, SqL.of (g3.inn _ _ hh2)⟩, for_list (xs := (headsAt es i).map V.int) (fun j σ H' => ∃ (v5 v6 : Option V) (rs : List Addr) (G : Hp), σ = [some (.ref r), some (.int (i : Int)), some (.ref d), some (.ref p), some (.int (gapL (e.tick - tickAt es i))), v5, v6] ∧ Go (fun _ => False) H0 B G H' ∧ Ex G3 G ∧ H' p = some (.lst (rs.map V.ref)) ∧ G p = none ∧ Prs G rs (((headsAt es i).take j).map fun a => (a, pcAt es i a)))
      ⟨none, none, [], G3, rfl, g3, Ex.refl _, h3, n3, Prs.nil _⟩ (fun j σ H' _ ⟨_, _, _, G, _, g, x, _⟩ => SqL.of (g.inn _ _ (x _ _ hh2))) (fun j x σ H' hx hp => ?_) (fun σ H' hp => ?_)⟩
    · obtain ⟨v5, v6, rs, G, rfl, g, xG, h4, n4, hpr⟩ := hp
      obtain ⟨a, ha, rfl⟩ := map_int_inv hx
      have hj : j < (headsAt es i).length := (List.getElem?_eq_some_iff.mp ha).1
      have hj2 := headsAt_len es i
      -- form = best_form(track[place], ahead, after)
      refine ⟨_, rfl, _, rfl, r, _, _, _, rfl, rfl, SqL.of (g.inn _ _ (g.up _ _ T.hr)), at_n (j := i) rfl hpe, _, rfl, _, rfl, pe, d, a, e, f, pcAt es (i + 1), G, rfl, g.inn, g.up _ _ hpx, ho, hd.up g.up, (fun x hx => hf _ (left_in he hx)), fun b G5 H5 g5 hb => ?_⟩
      have h5 := g5.keep p _ h4 fun z => z
      have n5 := g5.new p (by rw [h4]; simp) n4
      have x5 := g5.up
      have g5 := g.then g5
      have bin := (bestF_in (fcost a (pcAt es (i + 1))) (fs := e.forms) (by have := (forms_len e).1; omega)).1
      -- told.append((ahead, gap + form_cost(form, ahead, after)))
      refine ⟨_, rfl, .inl ⟨rfl, _, SqL.of h5⟩, _, rfl, _, rfl, _, rfl, _, rfl, _, rfl, b, a, d, _, f, _, rfl, hb.up g5.inn, hd.up (g5.up.trans g5.inn), hf _ (left_in he bin), Nat.le_trans (forms_data ho bin) (by decide), _, _, rfl, rfl, (by show 2 ≤ sizeLine; decide), fun t ht => ?_⟩
      have ev : gapL (e.tick - tickAt es i) + (hcost a (bestF (fcost a (pcAt es (i + 1))) e.forms).1 + ((bestF (fcost a (pcAt es (i + 1))) e.forms).2.length : Int) + pcAt es (i + 1) (left (bestF (fcost a (pcAt es (i + 1))) e.forms).1)) = pcAt es i a := (pcAt_step he a).symm
      dsimp only
      rw [ev]
      have g6 := g5.put (.tup [.int a, .int (pcAt es i a)]) ht
      have npt : p ≠ t := ne_of_none h5 ht
      have h6 := (upd_ne (o := HO.tup [.int a, .int (pcAt es i a)]) npt).trans h5
      have n6 := (upd_ne (H := G5) (o := HO.tup [.int a, .int (pcAt es i a)]) npt).trans n5
      have x6 : Ex G (upd G5 t (.tup [.int a, .int (pcAt es i a)])) := x5.trans (Ex.new (g5.inn.free ht))
      refine ⟨p, _, _, rfl, rfl, h6, mem_lt (by rw [List.length_map, hpr.1, List.length_map, List.length_take]; omega), _, _, rs ++ [t], _, rfl, g6.turn _ bp n6, xG.trans x6, ?_, n6, ?_⟩
      · rw [upd_same, List.map_append]
        rfl
      · rw [take_snoc ha, List.map_append]
        exact (hpr.up x6).snoc upd_same
    · obtain ⟨v5, v6, rs, G, rfl, g, xG, h4, n4, hpr⟩ := hp
      rw [List.length_map, List.take_length] at hpr
      exact ⟨_, rfl, q p rs G H' g bp n4 h4 hpr⟩
end
end Rt

namespace Rt
open PySem PySem.Spec PyProof.Rows L2 RZ TL
section
variable {P : Program} {w : World} {K : PySem.W.Frag} {mg : Str → Option Value} {base : Heap}
abbrev s_prices : Stmt := topS 19
theorem sc_prices : FnScope ["track", "told", "place", "head"] ["track"] (defScope s_prices) := ⟨rfl, rfl, rfl, by decide +kernel, rfl, by decide +kernel, by decide +kernel⟩
/-- pairs of numbers as a dict's pairs -/
def kvI (l : List (Int × Int)) : List (Key × V) := l.map fun x => (Sum.inl x.1, .int x.2)
theorem val_merge (c : Int → Int) (k : Int) : ∀ (l : List (Int × Int)) (kvs : List (Key × V)) (P : Int → Prop) [DecidablePred P], (∀ x ∈ l, x.2 = c x.1) → (∀ j, valV kvs (.inl j) = if P j then some (.int (c j)) else none) →
    valV (mergeK kvs (kvI l)) (.inl k) = if P k ∨ k ∈ l.map (·.1) then some (.int (c k)) else none
  | [], kvs, P, _, _, h => by
    show valV kvs (.inl k) = _
    rw [h k]
    simp
  | x :: l, kvs, P, _, hx, h => by
    have ih := val_merge c k l (putK kvs (.inl x.1) (.int x.2)) (fun j => P j ∨ j = x.1) (fun y hy => hx y (.tail _ hy)) (fun j => by
      rw [valV_put]
      by_cases e : j = x.1
      · rw [if_pos (by rw [e]), if_pos (.inr e), hx x (.head _), e]
      · rw [if_neg (fun z => e (Sum.inl.inj z)), h j]
        by_cases p : P j
        · rw [if_pos p, if_pos (.inl p)]
        · rw [if_neg p, if_neg (fun z => z.elim p e)])
    show valV (mergeK (putK kvs (.inl x.1) (.int x.2)) (kvI l)) (.inl k) = _
    rw [ih]
    by_cases p : (P k ∨ k = x.1) ∨ k ∈ l.map (·.1)
    · rw [if_pos p, if_pos]
      rcases p with (p | p) | p
      · exact .inl p
      · exact .inr (by rw [p]; exact .head _)
      · exact .inr (.tail _ p)
    · rw [if_neg p, if_neg]
      intro z
      rcases z with z | z
      · exact p (.inl (.inl z))
      · rcases List.mem_cons.mp z with z | z
        · exact p (.inl (.inr z))
        · exact p (.inr z)
theorem dict_of_row {G : Hp} {d : Addr} {l : List (Int × Int)} {c : Int → Int} (hx : ∀ x ∈ l, x.2 = c x.1) (hd : G d = some (.dK (mergeK [] (kvI l)))) : DictI G d fun k => if k ∈ l.map (·.1) then some (c k) else none := by
  refine ⟨_, hd, fun k => ?_⟩
  rw [val_merge c k l [] (fun _ => False) hx (fun j => by rw [if_neg (fun z => z)]; rfl)]
  show _ = Option.map V.int (if k ∈ l.map (·.1) then some (c k) else none)
  by_cases e : k ∈ l.map (·.1)
  · rw [if_pos (.inr e), if_pos e]
    rfl
  · rw [if_neg (fun z => z.elim (fun q => q) e), if_neg e]
    rfl
theorem prs_paired {K : PySem.W.Frag} {G H : Hp} (e : Ex G H) : ∀ (qs : List Addr) (l : List (Int × Int)), Prs G qs l → Paired (fun p kv => SqT K H p [kV kv.1, kv.2]) qs (kvI l)
  | [], [], _ => .nil
  | q :: qs, x :: l, h => .cons (SqT.of (e _ _ (h.2 0 q x rfl rfl))) (prs_paired e qs l ⟨by have := h.1; simpa using this, fun i r y h1 h2 => h.2 (i + 1) r y h1 h2⟩)
  | [], x :: l, h => by have := h.1; simp at this
  | q :: qs, [], h => by have := h.1; simp at this
/-- rows of pairs, in the making: the list of the rows at p; none of them settled -/
structure RowsH (B G H : Hp) (p : Addr) (rs : List Addr) (rows : List (List (Int × Int))) : Prop where
  hp : H p = some (.lst (rs.map V.ref))
  np : G p = none
  bp : B p = none
  ln : rs.length = rows.length
  at_ : ∀ (i : Nat) (r : Addr) (row : List (Int × Int)), rs[i]? = some r → rows[i]? = some row → ∃ qs : List Addr, H r = some (.lst (qs.map V.ref)) ∧ Prs G qs row ∧ G r = none ∧ B r = none ∧ r ≠ p
theorem RowsH.go {B G H G' H' : Hp} {p : Addr} {rs : List Addr} {rows : List (List (Int × Int))} (h : RowsH B G H p rs rows) (g : Go (fun _ => False) G H G' H') : RowsH B G' H' p rs rows where
  hp := g.keep _ _ h.hp fun z => z
  np := g.new p (by rw [h.hp]; simp) h.np
  bp := h.bp
  ln := h.ln
  at_ := fun i r row h1 h2 => by
    obtain ⟨qs, a, b, c, d, e⟩ := h.at_ i r row h1 h2
    exact ⟨qs, g.keep _ _ a (fun z => z), b.up g.up, g.new r (by rw [a]; simp) c, d, e⟩
theorem RowsH.snoc {B G H : Hp} {p r : Addr} {rs qs : List Addr} {rows : List (List (Int × Int))} {row : List (Int × Int)} (h : RowsH B G H p rs rows) (h1 : H r = some (.lst (qs.map V.ref))) (h2 : Prs G qs row) (h3 : G r = none) (h4 : B r = none) (h5 : r ≠ p) :
    RowsH B G (upd H p (.lst (rs.map V.ref ++ [.ref r]))) p (rs ++ [r]) (rows ++ [row]) := by
  refine ⟨by rw [upd_same, List.map_append]; rfl, h.np, h.bp, by rw [List.length_append, List.length_append, h.ln]; rfl, fun i r' row' e1 e2 => ?_⟩
  by_cases hi : i < rs.length
  · rw [List.getElem?_append_left hi] at e1
    rw [List.getElem?_append_left (by rw [← h.ln]; exact hi)] at e2
    obtain ⟨qs', a, b, c, d, e⟩ := h.at_ i r' row' e1 e2
    exact ⟨qs', (upd_ne e).trans a, b, c, d, e⟩
  · rw [List.getElem?_append_right (by omega)] at e1
    rw [List.getElem?_append_right (by rw [← h.ln]; omega), ← h.ln] at e2
    generalize i - rs.length = j at e1 e2
    match j, e1, e2 with
    | 0, e1, e2 =>
      cases e1
      cases e2
      exact ⟨qs, (upd_ne h5).trans h1, h2, h3, h4, h5⟩
    | k + 1, e1, _ => simp at e1
theorem RowsH.rev {B G H : Hp} {p : Addr} {rs : List Addr} {rows : List (List (Int × Int))} (h : RowsH B G H p rs rows) : RowsH B G (upd H p (.lst (rs.map V.ref).reverse)) p rs.reverse rows.reverse := by
  refine ⟨by rw [upd_same, List.map_reverse], h.np, h.bp, by rw [List.length_reverse, List.length_reverse, h.ln], fun i r row e1 e2 => ?_⟩
  have hi : i < rs.length := by
    have := (List.getElem?_eq_some_iff.mp e1).1
    rwa [List.length_reverse] at this
  rw [List.getElem?_reverse hi] at e1
  rw [List.getElem?_reverse (by rw [← h.ln]; exact hi), ← h.ln] at e2
  obtain ⟨qs, a, b, c, d, e⟩ := h.at_ _ r row e1 e2
  exact ⟨qs, (upd_ne e).trans a, b, c, d, e⟩
def spPrices : Sp := fun vs H Q _ => ∃ (r : Addr) (ps : List Addr) (es : List Evt) (H0 : Hp), vs = [.ref r] ∧ Ex H0 H ∧ TrkH H0 r ps es ∧ Up es ∧
  ∀ (p : Addr) (rs : List Addr) (G H' : Hp), Go (fun _ => False) H0 H G H' → RowsH H G H' p rs (rowsOf es) → Q (.ref p) H'
theorem rows_at (es : List Evt) (k j : Nat) (h : j ≤ k) : ((List.range (k + 1)).map fun j => rowAt es (es.length - j))[j]? = some (rowAt es (es.length - j)) := by
  rw [List.getElem?_map, List.getElem?_range (by omega)]
  rfl
theorem rows_rev (es : List Evt) : ((List.range (es.length + 1)).map fun j => rowAt es (es.length - j)).reverse = rowsOf es := by
  unfold rowsOf
  apply List.ext_getElem?
  intro i
  by_cases hi : i < es.length + 1
  · rw [List.getElem?_reverse (by rw [List.length_map, List.length_range]; exact hi), List.length_map, List.length_range, List.getElem?_map, List.getElem?_map, List.getElem?_range (by omega), List.getElem?_range hi]
    show some (rowAt es (es.length - (es.length + 1 - 1 - i))) = some (rowAt es i)
    rw [show es.length - (es.length + 1 - 1 - i) = i by omega]
  · rw [List.getElem?_eq_none (by rw [List.length_reverse, List.length_map, List.length_range]; omega), List.getElem?_eq_none (by rw [List.length_map, List.length_range]; omega)]
theorem row_end (es : List Evt) (i : Nat) (h : es.length ≤ i) : ∀ a, pcAt es i a = 2 := fun a => by
  unfold pcAt
  rw [List.drop_eq_nil_of_le h]
  rfl
theorem ok_prices {f en : Addr} {fd : FuncData} (F : Fun K "prices" "prices" s_prices f fd) (D_heads_at : Def P w K mg base "heads_at" 2 spHeadsAt) (D_prices_at : Def P w K mg base "prices_at" 4 spPricesAt) (m_len : mg "len" = none) (m_range : mg "range" = none) (m_reversed : mg "reversed" = none) (m_dict : mg "dict" = none) (c_END : ∃ u, mg "END" = some u ∧ L2.RelV (.ref en) u) (hen : ∀ H, SqT K H en [.int 0, .int 255]) : FnOk P w K mg base CX0 5 f fd ["track"] spPrices := by
  refine F.ok sc_prices (fun vs H Q E h => ?_) (fun cdv A outer s B vs Q E hr h => ?_)
  · obtain ⟨r, ps, es, H0, rfl, _⟩ := h
    rfl
  · obtain ⟨r, ps, es, H0, rfl, e0, T, hup, q⟩ := h
    refine ⟨_, (pss_cons (ps_set (i := 1) sc_prices.nd rfl (Or.inl rfl) (pe_lst (pa_cons (pe_lc (own := [("head", 3)]) (g := gName 3) (tt := tYes) rfl sc_prices.nd (pi_list (pe_d D_heads_at (hr.mono (by decide)) rfl (pa_cons (pv 0) (pa_cons (pe_callB call_len_seq (by rfl) m_len PySem.boot_len (pa_cons (pv 0) pa_nil)) pa_nil)))) (blkOk_by (N := ["track", "told", "place", "head"]) (sc := defScope s_prices) (by decide +kernel)) (fun _ _ _ _ _ => pg_name (i := 3) sc_prices.nd rfl (Or.inl rfl)) (fun _ _ _ _ _ => pts_nil) (fun _ _ _ _ _ => (pe_tup (pa_cons (pv 3) (pa_cons (pe_callB (r := rLenQ K) call_lenQ (by rfl) m_len PySem.boot_len (pa_cons (C8.pe_gc rfl c_END) pa_nil)) pa_nil))))) pa_nil)))
      (pss_cons (ps_for PassesOwn.never rfl (pi_revR (by rfl) m_reversed (prg_1 (by rfl) m_range (pe_callB call_len_seq (by rfl) m_len PySem.boot_len (pa_cons (pv 0) pa_nil)))) (pg_name (i := 2) sc_prices.nd rfl (Or.inl rfl)) (pss_one (ps_expr (pe_bm PySem.F.plainAttrs_list PySem.F.slot_list_append PySem.F.type_list_append mt_append (pv 1) (pa_cons (pe_d D_prices_at (hr.mono (by decide)) rfl (pa_cons (pv 0) (pa_cons (pv 2) (pa_cons (pe_callTy (call_dictP rfl) (by rfl) m_dict bt_dict (pa_cons (pe_ix ix_list (pv 1) (pe_un un_neg pe_int) (fun _ _ => rfl)) pa_nil)) pa_nil)))) pa_nil)))))
      (pss_cons (ps_expr (pe_bm0 PySem.F.plainAttrs_list PySem.F.slot_list_reverse PySem.F.type_list_reverse mt_reverse (pv 1)))
      (pss_one (ps_ret (pv 1)))))), ?_⟩
    have g0 := Go.refl (m := fun _ => False) e0
    have hsz := T.sz
    have lp := T.lp
    -- told = [[(head, len(END)) for head in heads_at(track, len(track))]]
    refine ⟨_, rfl, _, rfl, r, _, rfl, .inl (SqL.of (e0 _ _ T.hr)), r, es.length, ps, es, H0, by rw [lp]; rfl, e0, T, Nat.le_refl _, fun hh G H1 g1 hh1 hh2 => ?_⟩
    have hl2 := headsAt_len es es.length
    refine ⟨hh, rfl, ⟨_, SqL.of (g1.inn _ _ hh2)⟩, fun D hD => lc_list (xs := (headsAt es es.length).map V.int) (fun j H' => ∃ (qs : List Addr) (G' : Hp), H' D = some (.lst (qs.map V.ref)) ∧ Go (fun _ => False) H0 B G' H' ∧ Ex G G' ∧ G' D = none ∧ Prs G' qs (((headsAt es es.length).take j).map fun a => (a, 2)))
      ⟨[], G, upd_same, g1.lay _ hD, Ex.refl _, g1.fresh0 hD, Prs.nil _⟩ (fun j H' _ ⟨_, G', _, g, x, _⟩ => SqL.of (g.inn _ _ (x _ _ hh2))) (fun j x H' hx hp => ?_) (fun H' hp => ?_)⟩
    · obtain ⟨qs, G', h1, g, xG, nD, hpr⟩ := hp
      obtain ⟨a, ha, rfl⟩ := map_int_inv hx
      have hj : j < (headsAt es es.length).length := (List.getElem?_eq_some_iff.mp ha).1
      refine ⟨rfl, ?_⟩
      refine ⟨_, rfl, en, _, rfl, .inr (hen _), (by show 2 ≤ sizeLine; decide), fun t ht => ?_⟩
      have g2 := g.put (.tup [.int a, .int 2]) ht
      have nDt : D ≠ t := ne_of_none h1 ht
      have h2 := (upd_ne (o := HO.tup [.int a, .int 2]) nDt).trans h1
      have n2 := (upd_ne (H := G') (o := HO.tup [.int a, .int 2]) nDt).trans nD
      have x2 : Ex G' (upd G' t (.tup [.int a, .int 2])) := Ex.new (g.inn.free ht)
      refine ⟨_, h2, mem_lt (by rw [List.length_map, hpr.1, List.length_map, List.length_take]; omega), qs ++ [t], _, ?_, g2.turn _ (g1.fresh hD) n2, xG.trans x2, n2, ?_⟩
      · rw [upd_same, List.map_append]
        rfl
      · rw [take_snoc ha, List.map_append]
        exact (hpr.up x2).snoc upd_same
    · obtain ⟨qs, G', h1, g, xG, nD, hpr⟩ := hp
      rw [List.length_map, List.take_length] at hpr
      have bD := g1.fresh hD
      clear hh1 hh2 xG hD g1
      refine ⟨(by show 1 ≤ sizeLine; decide), fun p hp => ?_⟩
      have bp := g.fresh hp
      have nDp : D ≠ p := ne_of_none h1 hp
      have g2 := g.lay (.lst [.ref D]) hp
      have h2 := (upd_ne (o := HO.lst [.ref D]) nDp).trans h1
      have row0 : rowAt es es.length = (headsAt es es.length).map fun a => (a, 2) := by
        unfold rowAt
        exact List.map_congr_left fun a _ => by rw [row_end es _ (Nat.le_refl _)]
      have R0 : RowsH B G' (upd H' p (.lst [.ref D])) p [D] ((List.range (0 + 1)).map fun j => rowAt es (es.length - j)) := by
        refine ⟨upd_same, g.fresh0 hp, bp, rfl, fun i r row e1 e2 => ?_⟩
        match i, e1, e2 with
        | 0, e1, e2 =>
          cases e1
          cases e2
          exact ⟨qs, h2, by show Prs G' qs (rowAt es es.length); rw [row0]; exact hpr, nD, bD, nDp⟩
        | i + 1, e1, _ => simp at e1
      generalize upd H' p (.lst [.ref D]) = H2 at *
      clear h2 h1 hpr nD
      -- for place in reversed(range(len(track)))
      refine ⟨_, rfl, r, _, rfl, .inl (SqL.of (g2.inn _ _ (g2.up _ _ T.hr))), ?_⟩
      rw [lp]
      refine ⟨_, rfl, by decide, by decide, by omega, by omega, for_rangeC (fun k σ H' => ∃ (v2 v3 : Option V) (rs : List Addr) (G : Hp), σ = [some (.ref r), some (.ref p), v2, v3] ∧ Go (fun _ => False) H0 B G H' ∧ RowsH B G H' p rs ((List.range (k + 1)).map fun j => rowAt es (es.length - j)))
        ⟨none, none, [D], G', rfl, g2, R0⟩ (fun k σ H3 hk hP => ?_) (fun σ H3 hP => ?_)⟩
      · obtain ⟨v2, v3, rs, G3, rfl, g3, R⟩ := hP
        have hk : k < es.length := by omega
        have lrs : rs.length = k + 1 := by rw [R.ln, List.length_map, List.length_range]
        have hrk : rs[k]? = some rs[k] := List.getElem?_eq_getElem (by omega)
        obtain ⟨qk, k1, k2, k3, k4, k5⟩ := R.at_ k _ _ hrk (rows_at es k k (Nat.le_refl _))
        obtain ⟨i, hi, hi2⟩ : ∃ i : Nat, (0 + (((es.length : Int) - 0).toNat : Int) - 1 + (k : Int) * -1) = (i : Int) ∧ i + 1 + k = es.length := ⟨es.length - 1 - k, by omega, by omega⟩
        obtain ⟨pe, e, hpe, he, hpx, ho⟩ := T.at_ (i := i) (by omega)
        rw [show es.length - k = i + 1 by omega] at k2
        -- told.append(prices_at(track, place, dict(told[-1])))
        refine ⟨_, rfl, .inl ⟨rfl, _, SqL.of R.hp⟩, _, rfl, _, rfl, _, rfl, _, rfl, p, _, _, _, rfl, rfl, SqL.of R.hp, at_last rfl (map_ref hrk) (by rw [List.length_map]; omega), rs[k], qk, kvI (rowAt es (i + 1)), rfl, SqL.of k1, prs_paired g3.inn _ _ k2, fun pd hpd => ?_⟩
        have g4 := g3.put (.dK (mergeK [] (kvI (rowAt es (i + 1))))) hpd
        have R4 := R.go ((Go.refl g3.inn).put (.dK (mergeK [] (kvI (rowAt es (i + 1))))) hpd)
        have hdd := dict_of_row (c := pcAt es (i + 1)) (fun x hx => by
          obtain ⟨a, _, rfl⟩ := List.mem_map.mp (show x ∈ (headsAt es (i + 1)).map fun a => (a, pcAt es (i + 1) a) from hx)
          rfl) (upd_same (H := G3) (a := pd) (o := HO.dK (mergeK [] (kvI (rowAt es (i + 1))))))
        generalize upd G3 pd (.dK (mergeK [] (kvI (rowAt es (i + 1))))) = G4 at *
        generalize upd H3 pd (.dK (mergeK [] (kvI (rowAt es (i + 1))))) = H4 at *
        refine ⟨r, pd, i, ps, es, e, _, G4, congrArg (fun z => [V.ref r, V.int z, V.ref pd]) hi, g4.inn, T.up g4.up, hup, he, hdd, fun a ha => if_pos ?_, fun p2 rs2 G5 H5 g5 b5 n5 h5 hpr5 => ?_⟩
        · unfold rowAt
          rw [List.map_map]
          exact List.mem_map.mpr ⟨a, ha, rfl⟩
        · have R5 := R4.go g5
          have ne : p2 ≠ p := fun z => by
            rw [z, R4.hp] at b5
            cases b5
          have g6 := g4.then g5
          refine ⟨p, _, _, rfl, rfl, R5.hp, mem_lt (by rw [List.length_map]; omega), _, _, rs ++ [p2], G5, rfl, g6.turn _ R5.bp R5.np, ?_⟩
          have R6 := R5.snoc h5 hpr5 n5 (g4.fresh b5) ne
          have er : ((List.range (k + 1 + 1)).map fun j => rowAt es (es.length - j)) = ((List.range (k + 1)).map fun j => rowAt es (es.length - j)) ++ [rowAt es i] := by
            rw [List.range_succ, List.map_append]
            show _ ++ [rowAt es (es.length - (k + 1))] = _
            rw [show es.length - (k + 1) = i by omega]
          rw [er]
          exact R6
      · obtain ⟨v2, v3, rs, G3, rfl, g3, R⟩ := hP
        rw [show ((es.length : Int) - 0).toNat = es.length by omega] at R
        refine ⟨_, rfl, .inl ⟨rfl, _, SqL.of R.hp⟩, p, _, rfl, rfl, R.hp, ?_⟩
        have R2 := R.rev
        rw [rows_rev] at R2
        exact ⟨_, rfl, q p _ _ _ (g3.turn _ R.bp R.np) R2⟩
end
end Rt

namespace Rt
open PySem PySem.Spec PyProof.Rows L2 RZ TL
section
variable {P : Program} {w : World} {K : PySem.W.Frag} {mg : Str → Option Value} {base : Heap}
abbrev s_written : Stmt := topS 21
theorem sc_written : FnScope ["track", "row", "ahead", "table", "place", "event", "head", "data"] ["track"] (defScope s_written) := ⟨rfl, rfl, rfl, by decide +kernel, rfl, by decide +kernel, by decide +kernel⟩
/-- the numbers of a gap -/
def gapI (n : Int) : List Int := (gapB n.toNat).map fun (b : Nat) => (b : Int)
theorem gapI_len (n : Int) : ((gapI n).length : Int) = gapL n := by
  unfold gapI gapL
  rw [List.length_map]
theorem nums_gapI (n : Int) : nums (gapB n.toNat) = (gapI n).map V.int := nums_eq _
/-- the head, where it isn't left out -/
def headB (a h : Int) : List Int := if hcost a h > 0 then [h] else []
theorem headB_len (a h : Int) : ((headB a h).length : Int) = hcost a h := by
  unfold headB hcost
  by_cases c : h = a
  · rw [if_pos c, if_neg (by omega)]
    rfl
  · rw [if_neg c, if_pos (by omega)]
    rfl
/-- the events es in the fewest bytes, behind a tick and a head -/
def wr : List Evt → Int → Int → List Int
  | [], _, _ => [0, 255]
  | e :: r, t, a => gapI (e.tick - t) ++ headB a (bestF (fcost a (pc r e.tick)) e.forms).1 ++ (bestF (fcost a (pc r e.tick)) e.forms).2 ++ wr r e.tick (left (bestF (fcost a (pc r e.tick)) e.forms).1)
theorem wr_len : ∀ (es : List Evt) (t a : Int), ((wr es t a).length : Int) = pc es t a
  | [], _, _ => rfl
  | e :: r, t, a => by
    show (((gapI (e.tick - t) ++ headB a (bestF (fcost a (pc r e.tick)) e.forms).1 ++ (bestF (fcost a (pc r e.tick)) e.forms).2 ++ wr r e.tick (left (bestF (fcost a (pc r e.tick)) e.forms).1)).length : Nat) : Int) = gapL (e.tick - t) + fcost a (pc r e.tick) (bestF (fcost a (pc r e.tick)) e.forms)
    rw [List.length_append, List.length_append, List.length_append]
    have h1 := gapI_len (e.tick - t)
    have h2 := headB_len a (bestF (fcost a (pc r e.tick)) e.forms).1
    have h3 := wr_len r e.tick (left (bestF (fcost a (pc r e.tick)) e.forms).1)
    have h4 : fcost a (pc r e.tick) (bestF (fcost a (pc r e.tick)) e.forms) = hcost a (bestF (fcost a (pc r e.tick)) e.forms).1 + ((bestF (fcost a (pc r e.tick)) e.forms).2.length : Int) + pc r e.tick (left (bestF (fcost a (pc r e.tick)) e.forms).1) := rfl
    omega
def wrAt (es : List Evt) (i : Nat) (a : Int) : List Int := wr (es.drop i) (tickAt es i) a
def bestAt (es : List Evt) (i : Nat) (e : Evt) (a : Int) : Fm := bestF (fcost a (pcAt es (i + 1))) e.forms
theorem wrAt_step {es : List Evt} {i : Nat} {e : Evt} (h : es[i]? = some e) (a : Int) : wrAt es i a = gapI (e.tick - tickAt es i) ++ headB a (bestAt es i e a).1 ++ (bestAt es i e a).2 ++ wrAt es (i + 1) (left (bestAt es i e a).1) := by
  have hd : es.drop i = e :: es.drop (i + 1) := by
    obtain ⟨hl, he⟩ := List.getElem?_eq_some_iff.mp h
    rw [List.drop_eq_getElem_cons hl, he]
  have ht : tickAt es (i + 1) = e.tick := by
    show (match es[i]? with | some e => e.tick | none => 0) = _
    rw [h]
  unfold wrAt bestAt pcAt
  rw [hd, ht]
  rfl
/-- a bound for the bytes from a place on -/
theorem pc_le : ∀ (es : List Evt) (t a : Int), (∀ e ∈ es, e.Ok) → 0 ≤ t → (∀ e ∈ es, e.tick ≤ 999999) → pc es t a ≤ 25 * (es.length : Int) + 2
  | [], _, _, _, _, _ => by show (2 : Int) ≤ 25 * 0 + 2; decide
  | e :: r, t, a, ok, h0, ht => by
    have hoe := ok e (.head _)
    have ih := pc_le r e.tick (left (bestF (fcost a (pc r e.tick)) e.forms).1) (fun x h => ok x (.tail _ h)) hoe.tk.1 (fun x h => ht x (.tail _ h))
    have hb := (bestF_in (fcost a (pc r e.tick)) (fs := e.forms) (by have := (forms_len e).1; omega)).1
    have hd := forms_data hoe hb
    have hg : gapL (e.tick - t) ≤ 4 := by
      unfold gapL
      have := gapB_len (n := (e.tick - t).toNat) (by have := hoe.tk; omega)
      omega
    have hc : hcost a (bestF (fcost a (pc r e.tick)) e.forms).1 ≤ 1 := by
      unfold hcost
      split <;> omega
    have e1 : pc (e :: r) t a = gapL (e.tick - t) + (hcost a (bestF (fcost a (pc r e.tick)) e.forms).1 + ((bestF (fcost a (pc r e.tick)) e.forms).2.length : Int) + pc r e.tick (left (bestF (fcost a (pc r e.tick)) e.forms).1)) := rfl
    rw [e1, List.length_cons]
    omega
theorem RowsH.turn {B G H : Hp} {p w : Addr} {rs : List Addr} {rows : List (List (Int × Int))} {o : HO} (h : RowsH B G H p rs rows) (hw : B w ≠ none) : RowsH B G (upd H w o) p rs rows where
  hp := by rw [upd_ne (fun z => hw (by rw [← z]; exact h.bp))]; exact h.hp
  np := h.np
  bp := h.bp
  ln := h.ln
  at_ := fun i r row h1 h2 => by
    obtain ⟨qs, a, b, c, d, e⟩ := h.at_ i r row h1 h2
    exact ⟨qs, by rw [upd_ne (fun z => hw (by rw [← z]; exact d))]; exact a, b, c, d, e⟩
theorem rowsOf_at (es : List Evt) {i : Nat} (h : i ≤ es.length) : (rowsOf es)[i]? = some (rowAt es i) := by
  unfold rowsOf
  rw [List.getElem?_map, List.getElem?_range (by omega)]
  rfl
theorem RowsH.row {B G H : Hp} {p : Addr} {rs : List Addr} {es : List Evt} (R : RowsH B G H p rs (rowsOf es)) {i : Nat} (h : i ≤ es.length) : ∃ r qs, rs[i]? = some r ∧ H r = some (.lst (qs.map V.ref)) ∧ Prs G qs (rowAt es i) := by
  have hl : rs.length = es.length + 1 := by
    rw [R.ln]
    unfold rowsOf
    rw [List.length_map, List.length_range]
  have hr : rs[i]? = some rs[i] := List.getElem?_eq_getElem (by omega)
  obtain ⟨qs, a, b, _⟩ := R.at_ i _ _ hr (rowsOf_at es h)
  exact ⟨_, qs, hr, a, b⟩
theorem row_dict {G : Hp} {d : Addr} (es : List Evt) (i : Nat) (hd : G d = some (.dK (mergeK [] (kvI (rowAt es i))))) : ∃ f, DictI G d f ∧ ∀ a ∈ headsAt es i, f a = some (pcAt es i a) := by
  refine ⟨_, dict_of_row (c := pcAt es i) (fun x hx => by
    obtain ⟨a, _, rfl⟩ := List.mem_map.mp (show x ∈ (headsAt es i).map fun a => (a, pcAt es i a) from hx)
    rfl) hd, fun a ha => if_pos ?_⟩
  unfold rowAt
  rw [List.map_map]
  exact List.mem_map.mpr ⟨a, ha, rfl⟩
def spWritten : Sp := fun vs H Q _ => ∃ (r : Addr) (ps : List Addr) (es : List Evt) (H0 : Hp), vs = [.ref r] ∧ Ex H0 H ∧ TrkH H0 r ps es ∧ Up es ∧
  ∀ (p : Addr) (G H' : Hp), Go (fun _ => False) H0 H G H' → H p = none → G p = none → H' p = some (.lst ((wrAt es 0 0).map V.int)) → Q (.ref p) H'
theorem ok_written {f en : Addr} {fd : FuncData} (F : Fun K "written" "written" s_written f fd) (D_prices : Def P w K mg base "prices" 5 spPrices) (D_best_form : Def P w K mg base "best_form" 3 spBest) (D_gap_at : Def P w K mg base "gap_at" 2 spGapAt) (D_head_cost : Def P w K mg base "head_cost" 1 spHcost) (D_left_by : Def P w K mg base "left_by" 1 spLeft)
    (m_enumerate : mg "enumerate" = none) (m_dict : mg "dict" = none) (m_list : mg "list" = none) (c_NO_HEAD : ∃ u, mg "NO_HEAD" = some u ∧ L2.RelV (.int 0) u) (c_END : ∃ u, mg "END" = some u ∧ L2.RelV (.ref en) u) (hen : ∀ H, SqT K H en [.int 0, .int 255]) : FnOk P w K mg base CX0 6 f fd ["track"] spWritten := by
  refine F.ok sc_written (fun vs H Q E h => ?_) (fun cdv A outer s B vs Q E hr h => ?_)
  · obtain ⟨r, ps, es, H0, rfl, _⟩ := h
    rfl
  · obtain ⟨r, ps, es, H0, rfl, e0, T, hup, q⟩ := h
    refine ⟨_, (pss_cons (ps_set (i := 1) sc_written.nd rfl (Or.inl rfl) (pe_lst pa_nil))
      (pss_cons (ps_set (i := 2) sc_written.nd rfl (Or.inl rfl) (C8.pe_gc rfl c_NO_HEAD))
      (pss_cons (ps_set (i := 3) sc_written.nd rfl (Or.inl rfl) (pe_d D_prices (hr.mono (by decide)) rfl (pa_cons (pv 0) pa_nil)))
      (pss_cons (ps_for PassesOwn.never rfl (pi_enum (by rfl) m_enumerate (pa_cons (pv 0) pa_nil)) (pg_tup rfl (pgs_cons (pg_name (i := 4) sc_written.nd rfl (Or.inl rfl)) (pgs_cons (pg_name (i := 5) sc_written.nd rfl (Or.inl rfl)) pgs_nil))) (pss_cons (ps_asg (pe_d D_best_form (hr.mono (by decide)) rfl (pa_cons (pv 5) (pa_cons (pv 2) (pa_cons (pe_callTy (call_dictP rfl) (by rfl) m_dict bt_dict (pa_cons (pe_ix ix_list (pv 3) (pe_op op_add (pv 4) pe_int) (fun _ _ => rfl)) pa_nil)) pa_nil)))) (pg_tup rfl (pgs_cons (pg_name (i := 6) sc_written.nd rfl (Or.inl rfl)) (pgs_cons (pg_name (i := 7) sc_written.nd rfl (Or.inl rfl)) pgs_nil))))
      (pss_cons (ps_expr (pe_bm PySem.F.plainAttrs_list PySem.F.slot_list_extend PySem.F.type_list_extend mt_extend (pv 1) (pa_cons (pe_d D_gap_at (hr.mono (by decide)) rfl (pa_cons (pv 0) (pa_cons (pv 4) pa_nil))) pa_nil)))
      (C8.pss_cut (ps_if (pt_cmpR op_gt (pe_d D_head_cost (hr.mono (by decide)) rfl (pa_cons (pv 2) (pa_cons (pv 6) pa_nil))) pe_int (nomark _)) (pss_one (ps_expr (pe_bm PySem.F.plainAttrs_list PySem.F.slot_list_append PySem.F.type_list_append mt_append (pv 1) (pa_cons (pv 6) pa_nil)))) pss_nil)
      (pss_cons (ps_expr (pe_bm PySem.F.plainAttrs_list PySem.F.slot_list_extend PySem.F.type_list_extend mt_extend (pv 1) (pa_cons (pv 7) pa_nil)))
      (pss_one (ps_set (i := 2) sc_written.nd rfl (Or.inl rfl) (pe_d D_left_by (hr.mono (by decide)) rfl (pa_cons (pv 6) pa_nil)))))))))
      (pss_cons (ps_expr (pe_bm PySem.F.plainAttrs_list PySem.F.slot_list_extend PySem.F.type_list_extend mt_extend (pv 1) (pa_cons (pe_callTy call_list_of (by rfl) m_list bt_list (pa_cons (C8.pe_gc rfl c_END) pa_nil)) pa_nil)))
      (pss_one (ps_ret (pv 1)))))))), ?_⟩
    have g0 := Go.refl (m := fun _ => False) e0
    have hsz := T.sz
    have lp := T.lp
    -- row = []; ahead = NO_HEAD; table = prices(track)
    refine ⟨(by show 0 ≤ sizeLine; decide), fun w hw => ?_⟩
    have bw := g0.fresh hw
    have nw := g0.fresh0 hw
    have g1 := g0.lay (.lst []) hw
    refine ⟨_, rfl, r, ps, es, H0, rfl, g1.inn, T, hup, fun p rs G H1 g2 R => ?_⟩
    have hw2 := g2.keep w _ upd_same fun z => z
    have nw2 := g2.new w (by rw [upd_same]; simp) nw
    have bwn : upd B w (.lst []) w ≠ none := by rw [upd_same]; simp
    have g2 := g1.then g2
    have total : ((wrAt es 0 0).length : Int) ≤ 25 * (es.length : Int) + 2 := by
      have h1 := wr_len (es.drop 0) (tickAt es 0) 0
      have h2 := pc_le (es.drop 0) (tickAt es 0) 0 (fun e he => T.ok e (List.mem_of_mem_drop he)) (tickAt_ok T.ok 0).1 (fun e he => (T.ok e (List.mem_of_mem_drop he)).tk.2)
      rw [List.drop_zero] at h1 h2
      show (((wr (es.drop 0) (tickAt es 0) 0).length : Nat) : Int) ≤ _
      rw [List.drop_zero]
      omega
    clear g1
    -- for place, event in enumerate(track)
    refine ⟨_, rfl, r, _, rfl, SqL.of (g2.inn _ _ (g2.up _ _ T.hr)), for_enum (xs := ps.map V.ref) (fun i σ H' => ∃ (a : Int) (pre : List Int) (v4 v5 v6 v7 : Option V) (G : Hp), σ = [some (.ref r), some (.ref w), some (.int a), some (.ref p), v4, v5, v6, v7] ∧ Go (fun _ => False) H0 B G H' ∧ RowsH (upd B w (.lst [])) G H' p rs (rowsOf es) ∧ H' w = some (.lst (pre.map V.int)) ∧ G w = none ∧ pre ++ wrAt es i a = wrAt es 0 0)
      ⟨0, [], none, none, none, none, G, rfl, g2, R, hw2, nw2, rfl⟩ (fun i σ H' ⟨_, _, _, _, _, _, G, _, g, _⟩ => SqL.of (g.inn _ _ (g.up _ _ T.hr))) (fun i x t σ H' hx hp ht => ?_) (fun σ H' hp => ?_)⟩
    · clear g2 R hw2 nw2
      obtain ⟨a, pre, v4, v5, v6, v7, G, rfl, g, R, hwl, nG, hpre⟩ := hp
      have hil : i < es.length := by
        have := (List.getElem?_eq_some_iff.mp hx).1
        omega
      obtain ⟨pe, e, hpe, he, hpx, ho⟩ := T.at_ hil
      obtain rfl : x = V.ref pe := by
        rw [hpe] at hx
        exact (Option.some.inj hx).symm
      have step := wrAt_step he a
      have lens : ((pre.length : Nat) : Int) + ((wrAt es i a).length : Int) ≤ 25 * (es.length : Int) + 2 := by
        have := congrArg List.length hpre
        rw [List.length_append] at this
        omega
      rw [step] at hpre
      have lstep := congrArg List.length step
      simp only [List.length_append] at lstep
      refine ⟨t, _, rfl, SqT.of upd_same, rfl, _, _, rfl, _, _, rfl, rfl, ?_⟩
      have nwt : w ≠ t := ne_of_none hwl ht
      have R := R.go ((Go.refl g.inn).lay (.tup [.int (i : Nat), V.ref pe]) ht)
      have hwl := (upd_ne (o := HO.tup [.int (i : Nat), V.ref pe]) nwt).trans hwl
      have g := g.lay (.tup [.int (i : Nat), V.ref pe]) ht
      generalize upd H' t (.tup [.int (i : Nat), V.ref pe]) = H2 at *
      -- head, data = best_form(event, ahead, dict(table[place + 1]))
      obtain ⟨r1, q1, hr1, k1, k2⟩ := R.row (i := i + 1) (by omega)
      refine ⟨_, rfl, _, rfl, _, rfl, _, rfl, _, _, rfl, rfl, p, _, _, _, rfl, rfl, SqL.of R.hp, at_n (j := i + 1) rfl (map_ref hr1), r1, q1, kvI (rowAt es (i + 1)), rfl, SqL.of k1, prs_paired g.inn _ _ k2, fun pd hpd => ?_⟩
      have R := R.go ((Go.refl g.inn).put (.dK (mergeK [] (kvI (rowAt es (i + 1))))) hpd)
      have nwd : w ≠ pd := ne_of_none hwl hpd
      have hwl := (upd_ne (o := HO.dK (mergeK [] (kvI (rowAt es (i + 1))))) nwd).trans hwl
      have nG := (upd_ne (H := G) (o := HO.dK (mergeK [] (kvI (rowAt es (i + 1))))) nwd).trans nG
      obtain ⟨fD, hdd, hdk⟩ := row_dict es (i + 1) (upd_same (H := G) (a := pd) (o := HO.dK (mergeK [] (kvI (rowAt es (i + 1))))))
      have g := g.put (.dK (mergeK [] (kvI (rowAt es (i + 1))))) hpd
      generalize upd G pd (.dK (mergeK [] (kvI (rowAt es (i + 1))))) = G at *
      generalize upd H2 pd (.dK (mergeK [] (kvI (rowAt es (i + 1))))) = H2 at *
      refine ⟨pe, pd, a, e, fD, pcAt es (i + 1), G, rfl, g.inn, g.up _ _ hpx, ho, hdd, (fun x hx => hdk _ (left_in he hx)), fun b G3 H3 g3 hb => ?_⟩
      have R := R.go g3
      have nG := g3.new w (by rw [hwl]; simp) nG
      have hwl := g3.keep w _ hwl fun z => z
      have x3 := g3.up
      have g := g.then g3
      obtain ⟨bd, hb1, hb2⟩ := hb
      have bin := (bestF_in (fcost a (pcAt es (i + 1))) (fs := e.forms) (by have := (forms_len e).1; omega)).1
      have fdl := forms_data ho bin
      have eb : bestF (fcost a (pcAt es (i + 1))) e.forms = bestAt es i e a := rfl
      rw [eb] at hb1 hb2 fdl
      generalize bestAt es i e a = bf at *
      refine ⟨b, _, rfl, SqT.of (g.inn _ _ hb1), rfl, _, _, rfl, _, _, rfl, rfl, ?_⟩
      clear hdd hdk g3 k1 k2 eb bin
      -- row.extend(gap_at(track, place))
      refine ⟨_, rfl, .inl ⟨rfl, _, SqL.of hwl⟩, _, rfl, _, rfl, r, i, ps, es, e, G3, rfl, g.inn, T.up g.up, hup, he, fun l H4 g4 hl hl2 => ?_⟩
      have R := R.go g4
      have hwl := g4.keep w _ hwl fun z => z
      have g := g.then g4
      rw [nums_gapI] at hl2
      clear g4
      have b1 : ((pre.map V.int).length : Int) = (pre.length : Int) := by rw [List.length_map]
      refine ⟨w, l, _, _, rfl, rfl, hwl, hl2, mem_sz (by rw [List.length_map, List.length_map]; omega), ?_⟩
      have R := R.turn (o := .lst (pre.map V.int ++ (gapI (e.tick - tickAt es i)).map V.int)) bwn
      have g := g.turn (.lst (pre.map V.int ++ (gapI (e.tick - tickAt es i)).map V.int)) bw nG
      have hwl := upd_same (H := H4) (a := w) (o := HO.lst (pre.map V.int ++ (gapI (e.tick - tickAt es i)).map V.int))
      rw [← List.map_append] at hwl g R ⊢
      -- if head_cost(ahead, head) > 0: row.append(head)
      refine ⟨fun σ H' => σ = [some (.ref r), some (.ref w), some (.int a), some (.ref p), some (.int (i : Nat)), some (.ref pe), some (.int bf.1), some (.ref bd)] ∧ Go (fun _ => False) H0 B G3 H' ∧ RowsH (upd B w (.lst [])) G3 H' p rs (rowsOf es) ∧ H' w = some (.lst ((pre ++ gapI (e.tick - tickAt es i) ++ headB a bf.1).map V.int)), ?_, ?_⟩
      · refine ⟨_, rfl, _, rfl, a, bf.1, rfl, _, _, rfl, rfl, _, rfl, ifD (fun c => ?_) (fun c => ?_)⟩
        · refine ⟨_, rfl, .inl ⟨rfl, _, SqL.of hwl⟩, _, rfl, w, _, _, rfl, rfl, hwl, mem_lt (by rw [List.length_map, List.length_append]; omega), rfl, g.turn _ bw nG, R.turn bwn, ?_⟩
          unfold headB
          rw [if_pos c, upd_same, List.map_append (l₂ := [bf.1])]
          rfl
        · refine ⟨rfl, g, R, ?_⟩
          unfold headB
          rw [if_neg c, List.append_nil]
          exact hwl
      · clear g R hwl
        rintro σ H5 ⟨rfl, g, R, hwl⟩
        -- row.extend(data)
        have hbd := g.inn _ _ hb2
        refine ⟨_, rfl, .inl ⟨rfl, _, SqL.of hwl⟩, _, rfl, w, bd, _, _, rfl, rfl, hwl, hbd, mem_sz (by rw [List.length_map, List.length_map, List.length_append, List.length_append]; omega), ?_⟩
        have R := R.turn (o := .lst ((pre ++ gapI (e.tick - tickAt es i) ++ headB a bf.1).map V.int ++ bf.2.map V.int)) bwn
        have g := g.turn (.lst ((pre ++ gapI (e.tick - tickAt es i) ++ headB a bf.1).map V.int ++ bf.2.map V.int)) bw nG
        -- ahead = left_by(head)
        refine ⟨_, rfl, bf.1, rfl, _, pre ++ gapI (e.tick - tickAt es i) ++ headB a bf.1 ++ bf.2, _, _, _, _, G3, rfl, g, R, ?_, nG, ?_⟩
        · rw [upd_same, List.map_append (l₂ := bf.2)]
        · rw [← hpre]
          simp only [List.append_assoc]
    · obtain ⟨a, pre, v4, v5, v6, v7, G, rfl, g, R, hwl, nG, hpre⟩ := hp
      have we : wrAt es es.length a = [0, 255] := by
        unfold wrAt
        rw [List.drop_eq_nil_of_le (Nat.le_refl _)]
        rfl
      rw [lp, we] at hpre
      have lens := congrArg List.length hpre
      rw [List.length_append] at lens
      -- row.extend(list(END))
      refine ⟨_, rfl, .inl ⟨rfl, _, SqL.of hwl⟩, en, _, rfl, .inr (hen _), fun l hl => ?_⟩
      have nwl : w ≠ l := ne_of_none hwl hl
      have g := g.lay (.lst [.int 0, .int 255]) hl
      have hwl := (upd_ne (o := HO.lst [.int 0, .int 255]) nwl).trans hwl
      refine ⟨w, l, _, _, rfl, rfl, hwl, upd_same, mem_sz (by rw [List.length_map]; show _ + 2 ≤ _; omega), ?_⟩
      refine ⟨_, rfl, q w G _ (g.turn _ bw nG) bw nG ?_⟩
      rw [upd_same, ← hpre, List.map_append]
      rfl
end
end Rt

namespace Rt
open PySem PySem.Spec PyProof.Rows L2 RZ TL
section
variable {P : Program} {w : World} {K : PySem.W.Frag} {mg : Str → Option Value} {base : Heap}
abbrev s_law_left : Stmt := topS 34
theorem sc_law_left : FnScope ["_law_head"] ["_law_head"] (defScope s_law_left) := ⟨rfl, rfl, rfl, by decide +kernel, rfl, by decide +kernel, by decide +kernel⟩
theorem ok_law_left {f : Addr} {fd : FuncData} (F : Fun K "_law_left" "_law_left" s_law_left f fd) : FnOk P w K mg base CX0 1 f fd ["_law_head"] spLeft := by
  refine F.ok sc_law_left (fun vs H Q E h => ?_) (fun cdv A outer s H vs Q E hr h => ?_)
  · obtain ⟨h, rfl, _⟩ := h
    rfl
  · obtain ⟨h, rfl, q⟩ := h
    refine ⟨_, (pss_one (ps_ret (pe_ifExp (pt_cmpR op_eq (pv 0) pe_int (nomark _)) pe_int (pv 0)))), ?_⟩
    unfold left at q
    refine ⟨_, rfl, rfl, _, rfl, ifD (fun c => ?_) (fun c => ?_)⟩
    · rw [if_pos (V.int.inj c)] at q
      exact q
    · rw [if_neg fun z => c (by rw [z])] at q
      exact ⟨_, rfl, q⟩
abbrev s_law_forms : Stmt := topS 33
theorem sc_law_forms : FnScope ["_law_event", "_law_text", "_law_head", "_law_found", "_law_sign"] ["_law_event"] (defScope s_law_forms) := ⟨rfl, rfl, rfl, by decide +kernel, rfl, by decide +kernel, by decide +kernel⟩
/-- the law's own table -/
def headKV : List (Key × V) := [(.inr "off", .int 128), (.inr "on", .int 144), (.inr "knob", .int 160), (.inr "voice", .int 176)]
theorem dget_head {H : Hp} {a : Addr} {w : Str} {n : Int} (h : H a = some (.dK (mergeK [] headKV))) (e : valV (mergeK [] headKV) (.inr w) = some (.int n)) : DGet H a (.str w) (some (.int n)) := by
  have := DGet.k (k := Sum.inr w) h
  rw [e] at this
  exact this
theorem ok_law_forms {f : Addr} {fd : FuncData} (F : Fun K "_law_forms" "_law_forms" s_law_forms f fd) (m_len : mg "len" = none) (m_ord : mg "ord" = none) (m_list : mg "list" = none) : FnOk P w K mg base CX0 1 f fd ["_law_event"] spForms := by
  refine F.ok sc_law_forms (fun vs H Q E h => ?_) (fun cdv A outer s B vs Q E hr h => ?_)
  · obtain ⟨a, e, H0, rfl, _⟩ := h
    rfl
  · obtain ⟨a, e, H0, rfl, e0, ha, ho, q⟩ := h
    refine ⟨_, (pss_cons (ps_if (pt_cmpR op_eq (pe_ix ix_tup (pv 0) pe_int (fun _ _ => rfl)) pe_str (nomark _)) (pss_cons (ps_set (i := 1) sc_law_forms.nd rfl (Or.inl rfl) (pe_ix ix_tup (pv 0) pe_int (fun _ _ => rfl)))
      (pss_one (ps_ret (pe_lst (pa_cons (pe_tup (pa_cons pe_int (pa_cons (pe_op op_cat (pe_lst (pa_cons (pe_callB call_len_str (by rfl) m_len PySem.boot_len (pa_cons (pv 1) pa_nil)) pa_nil)) (pe_lc (own := [("_law_sign", 4)]) (g := gName 4) (tt := tYes) rfl sc_law_forms.nd (pi_str (pv 1)) (blkOk_by (N := ["_law_event", "_law_text", "_law_head", "_law_found", "_law_sign"]) (sc := defScope s_law_forms) (by decide +kernel)) (fun _ _ _ _ _ => pg_name (i := 4) sc_law_forms.nd rfl (Or.inl rfl)) (fun _ _ _ _ _ => pts_nil) (fun _ _ _ _ _ => (pe_callB call_ord (by rfl) m_ord bt_ord (pa_cons (pv 4) pa_nil))))) pa_nil))) pa_nil))))) pss_nil)
      (pss_cons (ps_set (i := 2) sc_law_forms.nd rfl (Or.inl rfl) (pe_op op_add (pe_dget (hu_of hr) (pe_disp (pps_cons pe_str pe_int (pps_cons pe_str pe_int (pps_cons pe_str pe_int (pps_cons pe_str pe_int pps_nil)))) (by rfl) (by rfl) (fun z => by cases z) (by decide)) (pe_ix ix_tup (pv 0) pe_int (fun _ _ => rfl)) (fun _ _ => rfl)) (pe_ix ix_tup (pv 0) pe_int (fun _ _ => rfl))))
      (pss_cons (ps_set (i := 3) sc_law_forms.nd rfl (Or.inl rfl) (pe_lst (pa_cons (pe_tup (pa_cons (pv 2) (pa_cons (pe_callTy call_list_of (by rfl) m_list bt_list (pa_cons (pe_slice sl_tup (pv 0) (po_some pe_int) po_none) pa_nil)) pa_nil))) pa_nil)))
      (pss_cons (ps_if (PW.pt (pw_and (pt_cmpR op_eq (pe_ix ix_tup (pv 0) pe_int (fun _ _ => rfl)) pe_str (nomark _)) (pw_and1 (pt_cmpR op_eq (pe_ix ix_tup (pv 0) pe_int (fun _ _ => rfl)) pe_int (nomark _))))) (pss_one (ps_expr (pe_bm PySem.F.plainAttrs_list PySem.F.slot_list_append PySem.F.type_list_append mt_append (pv 3) (pa_cons (pe_tup (pa_cons (pe_op op_add pe_int (pe_ix ix_tup (pv 0) pe_int (fun _ _ => rfl))) (pa_cons (pe_lst (pa_cons (pe_ix ix_tup (pv 0) pe_int (fun _ _ => rfl)) (pa_cons pe_int pa_nil))) pa_nil))) pa_nil)))) pss_nil)
      (pss_one (ps_ret (pv 3))))))), ?_⟩
    have g0 := Go.refl (m := fun _ => False) e0
    cases e with
    | mark t s =>
      refine ⟨_, rfl, a, _, _, _, rfl, rfl, SqT.of (e0 _ _ ha), at_of (j := 1) rfl rfl, rfl, _, rfl, ifT (by decide) ?_⟩
      refine ⟨_, rfl, a, _, _, _, rfl, rfl, SqT.of (e0 _ _ ha), at_of (j := 2) rfl rfl, ?_⟩
      refine ⟨_, rfl, s, rfl, mem_sz (Nat.le_trans ho.2.1 (by decide)), (by show 1 ≤ sizeLine; decide), fun l hl => ?_⟩
      have g1 := g0.put (.lst [.int (s.length : Int)]) hl
      have ha1 := upPut (o := .lst [.int (s.length : Int)]) (e0.free hl) ha
      have hll := upd_same (H := H0) (a := l) (o := HO.lst [.int (s.length : Int)])
      generalize upd H0 l (.lst [.int (s.length : Int)]) = G1 at *
      generalize upd B l (.lst [.int (s.length : Int)]) = B1 at *
      have zl : s.cps.toList.length ≤ 12 := by rw [Array.length_toList]; exact ho.2.1
      refine ⟨_, rfl, s, rfl, fun D hD => lc_str (LcP D G1 B1 fun i => .int (s.cps.toList.getD i 0 : Nat)) (LcP.start (Go.refl g1.inn) hD) (fun i c H' hc p => ?_) (fun H' p => ?_)⟩
      · have hi := (List.getElem?_eq_some_iff.mp hc).1
        refine ⟨rfl, ?_⟩
        refine ⟨_, rfl, ⟨#[c]⟩, rfl, rfl, LcP.step (Go.refl g1.inn) hD p (by omega) (Go.refl p.2.inn) ?_⟩
        rw [List.getD_eq_getElem?_getD, hc]
        rfl
      · have pn : H' D = some (.lst ((s.cps.toList.map fun (c : Nat) => (c : Int)).map V.int)) := by
          rw [p.1, List.map_map]
          exact congrArg (fun l => some (HO.lst l)) (map_range _ _ _ fun i a h => by rw [List.getD_eq_getElem?_getD, h]; rfl)
        have g2 := g1.then p.2
        refine ⟨l, D, _, _, rfl, rfl, p.2.inn _ _ hll, pn, mem_sz (by rw [List.length_map, List.length_map]; show 1 + _ ≤ _; omega), fun c hc => ?_⟩
        have g3 := g2.put (.lst ([.int (s.length : Int)] ++ (s.cps.toList.map fun (c : Nat) => (c : Int)).map V.int)) hc
        refine ⟨(by show 2 ≤ sizeLine; decide), fun u hu => ?_⟩
        have g4 := g3.put (.tup [.int 240, .ref c]) hu
        have k1 := upPut (o := .tup [.int 240, .ref c]) (g3.inn.free hu) (upd_same (H := G1) (a := c) (o := HO.lst ([.int (s.length : Int)] ++ (s.cps.toList.map fun (c : Nat) => (c : Int)).map V.int)))
        refine ⟨(by show 1 ≤ sizeLine; decide), fun v hv => ?_⟩
        have g5 := g4.put (.lst [.ref u]) hv
        exact q v [u] _ _ g5 (FmAt.one upd_same (upPut (g4.inn.free hv) upd_same) (upPut (g4.inn.free hv) k1)) (g4.fresh hv)
    | key b t c k f =>
      cases b with
      | true =>
        refine ⟨_, rfl, a, _, _, _, rfl, rfl, SqT.of (e0 _ _ ha), at_of (j := 1) rfl rfl, rfl, _, rfl, ifF (by decide) ?_⟩

        refine fun z hz => ⟨upd_same, headKV, rfl, (by decide), ?_⟩
        have g0 := (g0.lay (.dK []) hz).turn (.dK (mergeK [] headKV)) (g0.fresh hz) (g0.fresh0 hz)
        have e0 := g0.inn
        refine ⟨_, rfl, a, _, _, _, rfl, rfl, SqT.of (e0 _ _ ha), at_of (j := 1) rfl rfl, z, .int 144, rfl, dget_head upd_same (by decide +kernel), ?_⟩
        refine ⟨_, rfl, a, _, _, _, rfl, rfl, SqT.of (e0 _ _ ha), at_of (j := 2) rfl rfl, _, _, rfl, rfl, ?_⟩
        refine ⟨_, rfl, _, rfl, _, rfl, a, _, rfl, SqT.of (e0 _ _ ha), (fun z => absurd z.1 (by show ¬ HT.sIx 5 0 (some 3) = 0; decide)), fun s hs => ?_⟩
        rw [show cutV _ (some 3) none = ([.int k, .int f] : List V) from cutV_drop _ 3 (by show 3 ≤ 5; decide)]
        have g1 := g0.put (.tup [.int k, .int f]) hs
        have ha1 := upPut (o := .tup [.int k, .int f]) (g0.inn.free hs) ha
        refine ⟨s, _, rfl, .inr (SqT.of upd_same), fun l hl => ?_⟩
        have g2 := g1.put (.lst [.int k, .int f]) hl
        have ha2 := upPut (o := .lst [.int k, .int f]) (g1.inn.free hl) ha1
        have k2 := fun G : Hp => upd_same (H := G) (a := l) (o := HO.lst [.int k, .int f])
        refine ⟨(by show 2 ≤ sizeLine; decide), fun u hu => ?_⟩
        have g3 := g2.put (.tup [.int (144 + c), .ref l]) hu
        have ha3 := upPut (o := .tup [.int (144 + c), .ref l]) (g2.inn.free hu) ha2
        have k3 := upPut (o := .tup [.int (144 + c), .ref l]) (g2.inn.free hu) (k2 _)
        have u3 := fun G : Hp => upd_same (H := G) (a := u) (o := HO.tup [.int (144 + c), .ref l])
        refine ⟨(by show 1 ≤ sizeLine; decide), fun p hp => ?_⟩
        have g4 := g3.put (.lst [.ref u]) hp
        have bp := g3.fresh hp
        refine ⟨_, rfl, a, _, _, _, rfl, rfl, SqT.of (g4.inn _ _ (upPut (g3.inn.free hp) ha3)), at_of (j := 1) rfl rfl, rfl, _, rfl, ifF (by decide) ?_⟩
        exact ⟨_, rfl, q p [u] _ _ g4 (FmAt.one (h := 144 + c) (d := [k, f]) upd_same (upPut (g3.inn.free hp) (u3 _)) (upPut (g3.inn.free hp) k3)) bp⟩
      | false =>
        refine ⟨_, rfl, a, _, _, _, rfl, rfl, SqT.of (e0 _ _ ha), at_of (j := 1) rfl rfl, rfl, _, rfl, ifF (by decide) ?_⟩

        refine fun z hz => ⟨upd_same, headKV, rfl, (by decide), ?_⟩
        have g0 := (g0.lay (.dK []) hz).turn (.dK (mergeK [] headKV)) (g0.fresh hz) (g0.fresh0 hz)
        have e0 := g0.inn
        refine ⟨_, rfl, a, _, _, _, rfl, rfl, SqT.of (e0 _ _ ha), at_of (j := 1) rfl rfl, z, .int 128, rfl, dget_head upd_same (by decide +kernel), ?_⟩
        refine ⟨_, rfl, a, _, _, _, rfl, rfl, SqT.of (e0 _ _ ha), at_of (j := 2) rfl rfl, _, _, rfl, rfl, ?_⟩
        refine ⟨_, rfl, _, rfl, _, rfl, a, _, rfl, SqT.of (e0 _ _ ha), (fun z => absurd z.1 (by show ¬ HT.sIx 5 0 (some 3) = 0; decide)), fun s hs => ?_⟩
        rw [show cutV _ (some 3) none = ([.int k, .int f] : List V) from cutV_drop _ 3 (by show 3 ≤ 5; decide)]
        have g1 := g0.put (.tup [.int k, .int f]) hs
        have ha1 := upPut (o := .tup [.int k, .int f]) (g0.inn.free hs) ha
        refine ⟨s, _, rfl, .inr (SqT.of upd_same), fun l hl => ?_⟩
        have g2 := g1.put (.lst [.int k, .int f]) hl
        have ha2 := upPut (o := .lst [.int k, .int f]) (g1.inn.free hl) ha1
        have k2 := fun G : Hp => upd_same (H := G) (a := l) (o := HO.lst [.int k, .int f])
        refine ⟨(by show 2 ≤ sizeLine; decide), fun u hu => ?_⟩
        have g3 := g2.put (.tup [.int (128 + c), .ref l]) hu
        have ha3 := upPut (o := .tup [.int (128 + c), .ref l]) (g2.inn.free hu) ha2
        have k3 := upPut (o := .tup [.int (128 + c), .ref l]) (g2.inn.free hu) (k2 _)
        have u3 := fun G : Hp => upd_same (H := G) (a := u) (o := HO.tup [.int (128 + c), .ref l])
        refine ⟨(by show 1 ≤ sizeLine; decide), fun p hp => ?_⟩
        have g4 := g3.put (.lst [.ref u]) hp
        have bp := g3.fresh hp
        refine ⟨_, rfl, a, _, _, _, rfl, rfl, SqT.of (g4.inn _ _ (upPut (g3.inn.free hp) ha3)), at_of (j := 1) rfl rfl, rfl, _, rfl, ifT (by decide) ?_⟩
        refine ⟨_, rfl, a, _, _, _, rfl, rfl, SqT.of (g4.inn _ _ (upPut (g3.inn.free hp) ha3)), at_of (j := 4) rfl rfl, rfl, _, rfl, ifD (fun c64 => ?_) (fun c64 => ?_)⟩
        · obtain rfl : f = 64 := V.int.inj c64
          clear g4
          have g4 := g3.lay (.lst [.ref u]) hp
          have a4 := g4.inn _ _ ha3
          refine ⟨_, rfl, .inl ⟨rfl, _, SqL.of upd_same⟩, _, rfl, a, _, _, _, rfl, rfl, SqT.of a4, at_of (j := 2) rfl rfl, _, _, rfl, rfl, ?_⟩
          refine ⟨_, rfl, a, _, _, _, rfl, rfl, SqT.of a4, at_of (j := 3) rfl rfl, (by show 2 ≤ sizeLine; decide), fun b2 hb2 => ?_⟩
          have g5 := g4.put (.lst [.int k, .int 0]) hb2
          have npb : p ≠ b2 := ne_of_none upd_same hb2
          have hp5 := fun Hx : Hp => (upd_ne (H := upd Hx p (.lst [.ref u])) (o := HO.lst [.int k, .int 0]) npb).trans upd_same
          refine ⟨(by show 2 ≤ sizeLine; decide), fun u2 hu2 => ?_⟩
          have g6 := g5.put (.tup [.int (144 + c), .ref b2]) hu2
          have npu : p ≠ u2 := ne_of_none (hp5 _) hu2
          have hp6 := fun Hx : Hp => (upd_ne (H := upd (upd Hx p (.lst [.ref u])) b2 (.lst [.int k, .int 0])) (o := HO.tup [.int (144 + c), .ref b2]) npu).trans (hp5 Hx)
          have g0p : ∀ G : Hp, G p = none → upd (upd G b2 (.lst [.int k, .int 0])) u2 (.tup [.int (144 + c), .ref b2]) p = none := fun G n => by rw [upd_ne npu, upd_ne npb, n]
          have n6 := g0p _ (g3.inn.free hp)
          have k6 := upPut (o := .tup [.int (144 + c), .ref b2]) (g5.inn.free hu2) (upPut (o := .lst [.int k, .int 0]) (g4.inn.free hb2) k3)
          have u6 := upPut (o := .tup [.int (144 + c), .ref b2]) (g5.inn.free hu2) (upPut (o := .lst [.int k, .int 0]) (g4.inn.free hb2) (u3 _))
          have b6 := fun Hx : Hp => upd_same (H := Hx) (a := b2) (o := HO.lst [.int k, .int 0])
          refine ⟨p, _, _, rfl, rfl, hp6 _, mem_lt (by show 1 ≤ 1000000; decide), ?_⟩
          refine ⟨_, rfl, q p [u, u2] _ _ ((g6.turn (.lst ([.ref u] ++ [.ref u2])) bp n6).set bp upd_same n6) (FmAt.two (h := 128 + c) (d := [k, 64]) (h2 := 144 + c) (d2 := [k, 0]) upd_same (upPut n6 u6) (upPut n6 k6) (upPut n6 upd_same) (upPut n6 (upPut (g5.inn.free hu2) (b6 _)))) bp⟩
        · have ef : (Evt.key false t c k f).forms = [(128 + c, [k, f])] := by
            show (128 + c, [k, f]) :: (if f = 64 then [(144 + c, [k, 0])] else []) = _
            rw [if_neg fun z => c64 (by rw [z])]
          rw [ef] at q
          exact ⟨_, rfl, q p [u] _ _ g4 (FmAt.one (h := 128 + c) (d := [k, f]) upd_same (upPut (g3.inn.free hp) (u3 _)) (upPut (g3.inn.free hp) k3)) bp⟩
    | knob t c k v =>
      refine ⟨_, rfl, a, _, _, _, rfl, rfl, SqT.of (e0 _ _ ha), at_of (j := 1) rfl rfl, rfl, _, rfl, ifF (by decide) ?_⟩

      refine fun z hz => ⟨upd_same, headKV, rfl, (by decide), ?_⟩
      have g0 := (g0.lay (.dK []) hz).turn (.dK (mergeK [] headKV)) (g0.fresh hz) (g0.fresh0 hz)
      have e0 := g0.inn
      refine ⟨_, rfl, a, _, _, _, rfl, rfl, SqT.of (e0 _ _ ha), at_of (j := 1) rfl rfl, z, .int 160, rfl, dget_head upd_same (by decide +kernel), ?_⟩
      refine ⟨_, rfl, a, _, _, _, rfl, rfl, SqT.of (e0 _ _ ha), at_of (j := 2) rfl rfl, _, _, rfl, rfl, ?_⟩
      refine ⟨_, rfl, _, rfl, _, rfl, a, _, rfl, SqT.of (e0 _ _ ha), (fun z => absurd z.1 (by show ¬ HT.sIx 5 0 (some 3) = 0; decide)), fun s hs => ?_⟩
      rw [show cutV _ (some 3) none = ([.int k, .int v] : List V) from cutV_drop _ 3 (by show 3 ≤ 5; decide)]
      have g1 := g0.put (.tup [.int k, .int v]) hs
      have ha1 := upPut (o := .tup [.int k, .int v]) (g0.inn.free hs) ha
      refine ⟨s, _, rfl, .inr (SqT.of upd_same), fun l hl => ?_⟩
      have g2 := g1.put (.lst [.int k, .int v]) hl
      have ha2 := upPut (o := .lst [.int k, .int v]) (g1.inn.free hl) ha1
      have k2 := fun G : Hp => upd_same (H := G) (a := l) (o := HO.lst [.int k, .int v])
      refine ⟨(by show 2 ≤ sizeLine; decide), fun u hu => ?_⟩
      have g3 := g2.put (.tup [.int (160 + c), .ref l]) hu
      have ha3 := upPut (o := .tup [.int (160 + c), .ref l]) (g2.inn.free hu) ha2
      have k3 := upPut (o := .tup [.int (160 + c), .ref l]) (g2.inn.free hu) (k2 _)
      have u3 := fun G : Hp => upd_same (H := G) (a := u) (o := HO.tup [.int (160 + c), .ref l])
      refine ⟨(by show 1 ≤ sizeLine; decide), fun p hp => ?_⟩
      have g4 := g3.put (.lst [.ref u]) hp
      have bp := g3.fresh hp
      refine ⟨_, rfl, a, _, _, _, rfl, rfl, SqT.of (g4.inn _ _ (upPut (g3.inn.free hp) ha3)), at_of (j := 1) rfl rfl, rfl, _, rfl, ifF (by decide) ?_⟩
      exact ⟨_, rfl, q p [u] _ _ g4 (FmAt.one (h := 160 + c) (d := [k, v]) upd_same (upPut (g3.inn.free hp) (u3 _)) (upPut (g3.inn.free hp) k3)) bp⟩
    | voice t c v =>
      refine ⟨_, rfl, a, _, _, _, rfl, rfl, SqT.of (e0 _ _ ha), at_of (j := 1) rfl rfl, rfl, _, rfl, ifF (by decide) ?_⟩

      refine fun z hz => ⟨upd_same, headKV, rfl, (by decide), ?_⟩
      have g0 := (g0.lay (.dK []) hz).turn (.dK (mergeK [] headKV)) (g0.fresh hz) (g0.fresh0 hz)
      have e0 := g0.inn
      refine ⟨_, rfl, a, _, _, _, rfl, rfl, SqT.of (e0 _ _ ha), at_of (j := 1) rfl rfl, z, .int 176, rfl, dget_head upd_same (by decide +kernel), ?_⟩
      refine ⟨_, rfl, a, _, _, _, rfl, rfl, SqT.of (e0 _ _ ha), at_of (j := 2) rfl rfl, _, _, rfl, rfl, ?_⟩
      refine ⟨_, rfl, _, rfl, _, rfl, a, _, rfl, SqT.of (e0 _ _ ha), (fun z => absurd z.1 (by show ¬ HT.sIx 4 0 (some 3) = 0; decide)), fun s hs => ?_⟩
      rw [show cutV _ (some 3) none = ([.int v] : List V) from cutV_drop _ 3 (by show 3 ≤ 4; decide)]
      have g1 := g0.put (.tup [.int v]) hs
      have ha1 := upPut (o := .tup [.int v]) (g0.inn.free hs) ha
      refine ⟨s, _, rfl, .inr (SqT.of upd_same), fun l hl => ?_⟩
      have g2 := g1.put (.lst [.int v]) hl
      have ha2 := upPut (o := .lst [.int v]) (g1.inn.free hl) ha1
      have k2 := fun G : Hp => upd_same (H := G) (a := l) (o := HO.lst [.int v])
      refine ⟨(by show 2 ≤ sizeLine; decide), fun u hu => ?_⟩
      have g3 := g2.put (.tup [.int (176 + c), .ref l]) hu
      have ha3 := upPut (o := .tup [.int (176 + c), .ref l]) (g2.inn.free hu) ha2
      have k3 := upPut (o := .tup [.int (176 + c), .ref l]) (g2.inn.free hu) (k2 _)
      have u3 := fun G : Hp => upd_same (H := G) (a := u) (o := HO.tup [.int (176 + c), .ref l])
      refine ⟨(by show 1 ≤ sizeLine; decide), fun p hp => ?_⟩
      have g4 := g3.put (.lst [.ref u]) hp
      have bp := g3.fresh hp
      refine ⟨_, rfl, a, _, _, _, rfl, rfl, SqT.of (g4.inn _ _ (upPut (g3.inn.free hp) ha3)), at_of (j := 1) rfl rfl, rfl, _, rfl, ifF (by decide) ?_⟩
      exact ⟨_, rfl, q p [u] _ _ g4 (FmAt.one (h := 176 + c) (d := [v]) upd_same (upPut (g3.inn.free hp) (u3 _)) (upPut (g3.inn.free hp) k3)) bp⟩
abbrev s_law_gap : Stmt := topS 31
theorem sc_law_gap : FnScope ["_law_number", "_law_found", "_law_k"] ["_law_number"] (defScope s_law_gap) := ⟨rfl, rfl, rfl, by decide +kernel, rfl, by decide +kernel, by decide +kernel⟩
theorem ok_law_gap {f : Addr} {fd : FuncData} (F : Fun K "_law_gap" "_law_gap" s_law_gap f fd) (m_range : mg "range" = none) : FnOk P w K mg base CX0 1 f fd ["_law_number"] spGapBytes := by
  refine F.ok sc_law_gap (fun vs H Q E h => ?_) (fun cdv A outer s H vs Q E hr h => ?_)
  · obtain ⟨n, H0, rfl, _⟩ := h
    rfl
  · obtain ⟨n, H0, rfl, hn, e0, q⟩ := h
    refine ⟨_, (pss_cons (ps_set (i := 1) sc_law_gap.nd rfl (Or.inl rfl) (pe_lst (pa_cons (pe_op op_mod (pv 0) pe_int) pa_nil)))
      (pss_cons (ps_for PassesOwn.never rfl (pi_range1 rfl m_range (pa_cons pe_int pa_nil)) (pg_name (i := 2) sc_law_gap.nd rfl (Or.inl rfl)) (pss_cons (ps_set (i := 0) sc_law_gap.nd rfl (Or.inl rfl) (pe_op op_fdiv (pv 0) pe_int))
      (pss_one (ps_if (pt_cmpR op_gt (pv 0) pe_int (nomark _)) (pss_one (ps_set (i := 1) sc_law_gap.nd rfl (Or.inl rfl) (pe_op op_cat (pe_lst (pa_cons (pe_op op_add pe_int (pe_op op_mod (pv 0) pe_int)) pa_nil)) (pv 1)))) pss_nil))))
      (pss_one (ps_ret (pv 1))))), ?_⟩
    -- found = [number % 128]
    refine ⟨_, rfl, _, _, rfl, rfl, (by show (0 : Int) < 128; decide), (by show 1 ≤ sizeLine; decide), fun p hp => ?_⟩
    have g0 := Go.refl (m := fun _ => False) e0
    have g1 := g0.lay (.lst [V.int ((n : Int) % 128)]) hp
    refine ⟨4, rfl, by decide, by decide, for_range (lo := 0) (n := 4) (fun k σ H' => ∃ (m : Nat) (l : List Nat) (p : Addr) (v : Option V), σ = [some (.int (m : Int)), some (.ref p), v] ∧ H' p = some (.lst (nums l)) ∧ H p = none ∧ Go (fun _ => False) H0 H H0 H' ∧ m < 128 ^ (4 - k) ∧ l.length ≤ k + 1 ∧ gapB n = (gtl (m / 128)).reverse ++ l)
      ⟨n, [n % 128], p, none, rfl, upd_same, hp, g1, hn, (by show 1 ≤ 1; decide), gapB_eq n⟩ ?_ ?_⟩
    · rintro k σ H' hk ⟨m, l, p, v, rfl, hl, hp, g, hm, ll, el⟩
      -- number = number // 128
      refine ⟨_, rfl, _, _, rfl, rfl, ⟨by decide, by decide⟩, ?_⟩
      have hm2 : m / 128 < 128 ^ (4 - (k + 1)) := by
        have e : 4 - k = (4 - (k + 1)) + 1 := by omega
        rw [e, Nat.pow_succ] at hm
        omega
      refine ⟨_, rfl, _, _, rfl, rfl, _, rfl, ifD (fun c => ?_) (fun c => ?_)⟩
      · have hne : m / 128 ≠ 0 := by omega
        refine ⟨_, rfl, _, _, rfl, rfl, (by show (0 : Int) < 128; decide), _, _, rfl, rfl, (by show 1 ≤ sizeLine; decide), fun a ha => ?_⟩
        have g2 := g.lay (.lst [V.int (128 + ((m / 128 : Nat) : Int) % 128)]) ha
        have hl2 : upd H' a (.lst [V.int (128 + ((m / 128 : Nat) : Int) % 128)]) p = some (.lst (nums l)) := by
          rw [upd_ne (ne_of_none hl ha)]
          exact hl
        refine ⟨_, rfl, a, p, _, _, rfl, rfl, upd_same, hl2, mem_sz (by rw [nums_len]; show 1 + _ ≤ _; omega), fun b hb => ?_⟩
        refine ⟨m / 128, (128 + m / 128 % 128) :: l, b, _, rfl, ?_, g2.fresh hb, g2.lay _ hb, hm2, (by rw [List.length_cons]; omega), ?_⟩
        · rw [upd_same]
          rfl
        · rw [el, gtl1 hne, List.reverse_cons, List.append_assoc]
          rfl
      · have hz : m / 128 = 0 := by omega
        refine ⟨0, l, p, some (.int (0 + (k : Int))), ?_, hl, hp, g, Nat.pow_pos (by decide), by omega, ?_⟩
        · have : ((m : Int) / 128) = ((0 : Nat) : Int) := by omega
          show [some (V.int ((m : Int) / 128)), _, _] = _
          rw [this]
        · rw [el, hz]
    · rintro σ H' ⟨m, l, p, v, rfl, hl, hp, g, hm, ll, el⟩
      have hz : m = 0 := by
        have : 128 ^ (4 - 4) = 1 := rfl
        omega
      subst hz
      rw [show 0 / 128 = 0 by rfl, gtl0] at el
      exact ⟨_, rfl, q p _ g hp (by rw [el]; exact hl)⟩
abbrev s_law_gap_ahead : Stmt := topS 32
theorem sc_law_gap_ahead : FnScope ["_law_track_here", "_law_at"] ["_law_track_here", "_law_at"] (defScope s_law_gap_ahead) := ⟨rfl, rfl, rfl, by decide +kernel, rfl, by decide +kernel, by decide +kernel⟩
def spGapAhead : Sp := fun vs H Q _ => ∃ (r : Addr) (i : Nat) (ps : List Addr) (es : List Evt) (e : Evt) (H0 : Hp), vs = [.ref r, .int (i : Int)] ∧ Ex H0 H ∧ TrkH H0 r ps es ∧ es[i]? = some e ∧ Q (.int (e.tick - tickAt es i)) H
theorem ok_law_gap_ahead {f : Addr} {fd : FuncData} (F : Fun K "_law_gap_ahead" "_law_gap_ahead" s_law_gap_ahead f fd) : FnOk P w K mg base CX0 1 f fd ["_law_track_here", "_law_at"] spGapAhead := by
  refine F.ok sc_law_gap_ahead (fun vs H Q E h => ?_) (fun cdv A outer s B vs Q E hr h => ?_)
  · obtain ⟨r, i, ps, es, e, H0, rfl, _⟩ := h
    rfl
  · obtain ⟨r, i, ps, es, e, H0, rfl, e0, T, he, q⟩ := h
    refine ⟨_, (pss_one (ps_ret (pe_op op_sub (pe_ix ix_tup (pe_ix ix_list (pv 0) (pv 1) (fun _ _ => rfl)) pe_int (fun _ _ => rfl)) (pe_ifExp (pt_cmpR op_gt (pv 1) pe_int (nomark _)) (pe_ix ix_tup (pe_ix ix_list (pv 0) (pe_op op_sub (pv 1) pe_int) (fun _ _ => rfl)) pe_int (fun _ _ => rfl)) pe_int)))), ?_⟩
    have hi := (List.getElem?_eq_some_iff.mp he).1
    obtain ⟨p, e', hp, he', hpx, ho⟩ := T.at_ hi
    obtain rfl : e = e' := by rw [he] at he'; exact Option.some.inj he'
    refine ⟨_, rfl, _, rfl, r, _, _, _, rfl, rfl, SqL.of (e0 _ _ T.hr), at_n (j := i) rfl hp, p, _, _, _, rfl, rfl, SqT.of (e0 _ _ hpx), at_of (j := 0) rfl tick_at, ?_⟩
    refine ⟨_, rfl, _, _, rfl, rfl, _, rfl, ifD (fun c => ?_) (fun c => ?_)⟩
    · obtain ⟨j, rfl⟩ : ∃ j, i = j + 1 := ⟨i - 1, by omega⟩
      obtain ⟨p2, e2, hp2, he2, hpx2, ho2⟩ := T.at_ (i := j) (by omega)
      have ht : tickAt es (j + 1) = e2.tick := by
        show (match es[j]? with | some e => e.tick | none => 0) = _
        rw [he2]
      rw [ht] at q
      exact ⟨_, rfl, _, rfl, _, _, rfl, rfl, r, _, _, _, rfl, rfl, SqL.of (e0 _ _ T.hr), at_n (j := j) (by omega) hp2, p2, _, _, _, rfl, rfl, SqT.of (e0 _ _ hpx2), at_of (j := 0) rfl tick_at, _, _, rfl, rfl, q⟩
    · obtain rfl : i = 0 := by omega
      exact ⟨_, _, rfl, rfl, q⟩
end
end Rt

namespace Rt
open PySem PySem.Spec PyProof.Rows L2 RZ TL
section
variable {P : Program} {w : World} {K : PySem.W.Frag} {mg : Str → Option Value} {base : Heap}
abbrev s_law_k12 : Stmt := topS 35
theorem sc_law_k12 : FnScope ["_law_script", "_law_draw", "_law_track_here", "_law_rows", "_law_at", "_law_onward", "_law_gap_here", "_law_ahead", "_law_told", "_law_ways", "_law_head", "_law_data", "_law_many", "_law_pair", "_law_way"] ["_law_script"] (defScope s_law_k12) := ⟨rfl, rfl, rfl, by decide +kernel, rfl, by decide +kernel, by decide +kernel⟩
def spLaw (K : PySem.W.Frag) : Sp := fun vs H Q _ => ∃ (a : Addr) (ns : List Int), vs = [.ref a] ∧ SqL K H a (ns.map V.int) ∧ ∀ H', Q (.bl true) H'
def intsD (l : List Int) : PyData := .list (l.map PyData.int)
theorem dp_ints {K : PySem.W.Frag} {H : Hp} : ∀ l : List Int, DpAll K H (l.map V.int) (l.map PyData.int)
  | [] => .nil
  | n :: l => .cons (.int _) (dp_ints l)
theorem intsD_shaped (l : List Int) : SeqAt.shaped (intsD l) = true := PySem.W.ke_shaped_ints l
theorem intsD_eq (l : List Int) : PyData.eqv (intsD l) (intsD l) = true := SeqAt.eqv_refl _ (SeqAt.canLay_of_shaped (intsD_shaped l))
theorem in_ints {z : Int} {l : List Int} (h : z ∈ l) : inV (.int z) (l.map V.int) = true := by
  unfold inV
  rw [List.any_eq_true]
  exact ⟨.int z, List.mem_map.mpr ⟨z, h, rfl⟩, by show (z == z) = true; simp⟩
theorem flat_ints (l : List Int) : (l.map V.int).all flatV = true := by
  rw [List.all_eq_true]
  intro v hv
  obtain ⟨z, _, rfl⟩ := List.mem_map.mp hv
  rfl
theorem rep_ints (n : Nat) : (List.replicate n [V.int 2]).flatten = (List.replicate n (2 : Int)).map V.int := by
  induction n with
  | zero => rfl
  | succ n ih =>
    rw [List.replicate_succ, List.flatten_cons, ih, List.replicate_succ, List.map_cons]
    rfl
theorem ok_law {f : Addr} {fd : FuncData} (F : Fun K "law" "law" s_law_k12 f fd) (D__law_begin : Def P w K mg base "_law_begin" 1 (spBegin K)) (D__law_track : Def P w K mg base "_law_track" 4 spTrack)
    (D_prices : Def P w K mg base "prices" 5 spPrices) (D_written : Def P w K mg base "written" 6 spWritten) (D__law_forms : Def P w K mg base "_law_forms" 1 spForms) (D__law_left : Def P w K mg base "_law_left" 1 spLeft) (D__law_gap : Def P w K mg base "_law_gap" 1 spGapBytes) (D__law_gap_ahead : Def P w K mg base "_law_gap_ahead" 1 spGapAhead)
    (m_range : mg "range" = none) (m_len : mg "len" = none) (m_dict : mg "dict" = none) (m_int : mg "int" = none) (m_any : mg "any" = none) : FnOk P w K mg base CX0 7 f fd ["_law_script"] (spLaw K) := by
  refine F.ok sc_law_k12 (fun vs H Q E h => ?_) (fun cdv A outer s B vs Q E hr h => ?_)
  · obtain ⟨a, ns, rfl, _⟩ := h
    rfl
  · obtain ⟨a, ns, rfl, hS, q⟩ := h
    refine ⟨_, (pss_cons (ps_set (i := 1) sc_law_k12.nd rfl (Or.inl rfl) (pe_d D__law_begin (hr.mono (by decide)) rfl (pa_cons (pv 0) pa_nil)))
      (pss_cons (ps_set (i := 2) sc_law_k12.nd rfl (Or.inl rfl) (pe_d D__law_track (hr.mono (by decide)) rfl (pa_cons (pv 1) (pa_cons pe_int pa_nil))))
      (pss_cons (ps_set (i := 3) sc_law_k12.nd rfl (Or.inl rfl) (pe_d D_prices (hr.mono (by decide)) rfl (pa_cons (pv 2) pa_nil)))
      (pss_cons (ps_if (PW.pt (pw_or (pt_cmpR op_ne (pe_callB call_len_seq (by rfl) m_len PySem.boot_len (pa_cons (pv 3) pa_nil)) (pe_op op_add (pe_callB call_len_seq (by rfl) m_len PySem.boot_len (pa_cons (pv 2) pa_nil)) pe_int) (nomark _)) (pw_or1 (pt_cmpR (op_neD hr.units) (pe_lc (own := [("_law_pair", 13)]) (g := gName 13) (tt := tYes) rfl sc_law_k12.nd (pi_list (pe_ix ix_list (pv 3) (pe_un un_neg pe_int) (fun _ _ => rfl))) (blkOk_by (N := ["_law_script", "_law_draw", "_law_track_here", "_law_rows", "_law_at", "_law_onward", "_law_gap_here", "_law_ahead", "_law_told", "_law_ways", "_law_head", "_law_data", "_law_many", "_law_pair", "_law_way"]) (sc := defScope s_law_k12) (by decide +kernel)) (fun _ _ _ _ _ => pg_name (i := 13) sc_law_k12.nd rfl (Or.inl rfl)) (fun _ _ _ _ _ => pts_nil) (fun _ _ _ _ _ => (pe_ix (r := rIxT K) ix_tup (pv 13) pe_int (fun _ _ => rfl)))) (pe_op op_rep (pe_lst (pa_cons pe_int pa_nil)) (pe_callB call_len_seq (by rfl) m_len PySem.boot_len (pa_cons (pe_ix ix_list (pv 3) (pe_un un_neg pe_int) (fun _ _ => rfl)) pa_nil))) (nomark _))))) (pss_one (ps_ret pe_bl)) pss_nil)
      (pss_cons (ps_for PassesOwn.never rfl (pi_range1 rfl m_range (pa_cons (pe_callB call_len_seq (by rfl) m_len PySem.boot_len (pa_cons (pv 2) pa_nil)) pa_nil)) (pg_name (i := 4) sc_law_k12.nd rfl (Or.inl rfl)) (pss_cons (ps_set (i := 5) sc_law_k12.nd rfl (Or.inl rfl) (pe_callTy (call_dictP rfl) (by rfl) m_dict bt_dict (pa_cons (pe_ix ix_list (pv 3) (pe_op op_add (pv 4) pe_int) (fun _ _ => rfl)) pa_nil)))
      (pss_cons (ps_set (i := 6) sc_law_k12.nd rfl (Or.inl rfl) (pe_callB call_len_seq (by rfl) m_len PySem.boot_len (pa_cons (pe_d D__law_gap (hr.mono (by decide)) rfl (pa_cons (pe_d D__law_gap_ahead (hr.mono (by decide)) rfl (pa_cons (pv 2) (pa_cons (pv 4) pa_nil))) pa_nil)) pa_nil)))
      (pss_one (ps_for PassesOwn.never rfl (pi_list (pe_ix ix_list (pv 3) (pv 4) (fun _ _ => rfl))) (pg_tup rfl (pgs_cons (pg_name (i := 7) sc_law_k12.nd rfl (Or.inl rfl)) (pgs_cons (pg_name (i := 8) sc_law_k12.nd rfl (Or.inr rfl)) pgs_nil))) (pss_cons (ps_set (i := 9) sc_law_k12.nd rfl (Or.inl rfl) (pe_lst pa_nil))
      (pss_cons (ps_for PassesOwn.never rfl (pi_list (pe_d D__law_forms (hr.mono (by decide)) rfl (pa_cons (pe_ix ix_list (pv 2) (pv 4) (fun _ _ => rfl)) pa_nil))) (pg_tup rfl (pgs_cons (pg_name (i := 10) sc_law_k12.nd rfl (Or.inl rfl)) (pgs_cons (pg_name (i := 11) sc_law_k12.nd rfl (Or.inl rfl)) pgs_nil))) (pss_cons (ps_set (i := 12) sc_law_k12.nd rfl (Or.inl rfl) (pe_op op_add (pe_op op_add (pv 6) (pe_callB call_len_seq (by rfl) m_len PySem.boot_len (pa_cons (pv 11) pa_nil))) (pe_callTy call_int1 (by rfl) m_int bt_int (pa_cons (pe_cmpR op_ne (pv 10) (pv 7) (nomark _)) pa_nil))))
      (pss_one (ps_expr (pe_bm PySem.F.plainAttrs_list PySem.F.slot_list_append PySem.F.type_list_append mt_append (pv 9) (pa_cons (pe_op op_add (pv 12) (pe_dget (hu_of hr) (pv 5) (pe_d D__law_left (hr.mono (by decide)) rfl (pa_cons (pv 10) pa_nil)) (fun _ _ => rfl))) pa_nil))))))
      (pss_one (ps_if (PW.pt (pw_or (pt_cmpR op_notIn_seq (pv 8) (pv 9) (by with_unfolding_all rfl)) (pw_or1 (pt_val (pe_callB (cr_any rfl) (by rfl) m_any bt_any (pa_cons (pe_lc (own := [("_law_way", 14)]) (g := gName 14) (tt := tYes) rfl sc_law_k12.nd (pi_list (pv 9)) (blkOk_by (N := ["_law_script", "_law_draw", "_law_track_here", "_law_rows", "_law_at", "_law_onward", "_law_gap_here", "_law_ahead", "_law_told", "_law_ways", "_law_head", "_law_data", "_law_many", "_law_pair", "_law_way"]) (sc := defScope s_law_k12) (by decide +kernel)) (fun _ _ _ _ _ => pg_name (i := 14) sc_law_k12.nd rfl (Or.inl rfl)) (fun _ _ _ _ _ => pts_nil) (fun _ _ _ _ _ => (pe_cmpR op_lt (pv 14) (pv 8) (nomark _)))) pa_nil)))))) (pss_one (ps_ret pe_bl)) pss_nil)))))))))
      (pss_one (ps_ret (pe_and (pe_cmpR op_eq (pe_callB call_len_seq (by rfl) m_len PySem.boot_len (pa_cons (pe_d D_written (hr.mono (by decide)) rfl (pa_cons (pv 2) pa_nil)) pa_nil)) (pe_ix ix_tup (pe_ix ix_list (pe_ix ix_list (pv 3) pe_int (fun _ _ => rfl)) pe_int (fun _ _ => rfl)) pe_int (fun _ _ => rfl)) (nomark _)) (pe_one (pe_cmpR op_eq (pe_callB call_len_seq (by rfl) m_len PySem.boot_len (pa_cons (pe_ix ix_list (pv 3) pe_int (fun _ _ => rfl)) pa_nil)) pe_int (nomark _))))))))))), ?_⟩
    refine ⟨_, rfl, a, ns, fun _ => none, rfl, hS, (fun b o z => by cases z), fun d H0 H1 gA hD _ => ?_⟩
    have S := Sd.here gA.inn hD
    -- track_here = track(draw, 40)
    refine ⟨_, rfl, d, 40, _, rfl, by decide, S.ex, S.dr, fun p ps evs G H g hD2 np hp h0 hev hl hg hrise => ?_⟩
    obtain ⟨es, rfl, hok⟩ := good_evts hg
    rw [List.length_map] at hl
    have hup := up_of_rise hrise hok
    have S2 := (S.call g hD2).set np hp h0 (hD.ne np)
    have T : TrkH (upd G p (.lst (ps.map V.ref))) p ps es := ⟨upd_same, hev.up (Ex.new h0), hok, by omega⟩
    have e0 := S2.ex
    clear S2 g hD2 hp h0 hev S hg hrise
    generalize upd G p (.lst (ps.map V.ref)) = G at *
    have lp := T.lp
    -- rows = prices(track_here)
    refine ⟨_, rfl, p, ps, es, G, rfl, e0, T, hup, fun rw_ rs G1 H2 g1 R => ?_⟩
    have e1 := g1.inn
    have T := T.up g1.up
    have lrs : (rs.map V.ref).length = es.length + 1 := by
      rw [List.length_map, R.ln]
      unfold rowsOf
      rw [List.length_map, List.length_range]
    clear g1 e0
    have R0 := R
    obtain ⟨rl, ql, hrl, kl1, kl2⟩ := R.row (i := es.length) (Nat.le_refl _)
    have hlast : atI (rs.map V.ref) (-1) = some (V.ref rl) := at_last rfl (map_ref hrl) (by omega)
    -- if len(rows) != len(track_here) + 1 or ..
    refine ⟨_, rfl, rw_, _, rfl, .inl (SqL.of R.hp), _, rfl, p, _, rfl, .inl (SqL.of (e1 _ _ T.hr)), _, _, rfl, rfl, ?_⟩
    rw [lrs, lp]
    refine ⟨rfl, _, rfl, ifF (by rw [decide_eq_true (by rfl)]; rfl) ?_⟩
    refine ⟨_, rfl, _, rfl, rw_, _, _, _, rfl, rfl, SqL.of R.hp, hlast, rl, rfl, ⟨_, SqL.of kl1⟩, fun D hD => lc_list (xs := ql.map V.ref) (LcP D G1 H2 fun _ => .int 2) (LcP.start (Go.refl e1) hD) (fun i H' _ p => SqL.of (p.2.keep _ _ kl1 fun z => z)) (fun i x H' hx p => ?_) (fun H3 pD => ?_)⟩
    · have hi : i < ql.length := by
        have := (List.getElem?_eq_some_iff.mp hx).1
        rwa [List.length_map] at this
      have hq : ql[i]? = some ql[i] := List.getElem?_eq_getElem hi
      have hil : i < (rowAt es es.length).length := by rw [← kl2.1]; exact hi
      have hrw : (rowAt es es.length)[i]? = some (rowAt es es.length)[i] := List.getElem?_eq_getElem hil
      have h1 := kl2.2 i _ _ hq hrw
      have h2 : (rowAt es es.length)[i].2 = 2 := by
        have hm : (rowAt es es.length)[i] ∈ rowAt es es.length := List.getElem_mem hil
        obtain ⟨a, _, e⟩ := List.mem_map.mp (show (rowAt es es.length)[i] ∈ (headsAt es es.length).map fun a => (a, pcAt es es.length a) from hm)
        rw [← e]
        exact row_end es _ (Nat.le_refl _) a
      rw [h2] at h1
      rw [map_ref hq] at hx
      obtain rfl := Option.some.inj hx
      have hsm := headsAt_len es es.length
      have hrl2 : (rowAt es es.length).length ≤ 2 := by
        unfold rowAt
        rw [List.length_map]
        exact hsm
      refine ⟨rfl, ?_⟩
      exact ⟨_, rfl, ql[i], _, _, _, rfl, rfl, SqT.of (p.2.inn _ _ h1), at_of (j := 1) rfl rfl, LcP.step (Go.refl e1) hD p (by omega) (Go.refl p.2.inn) rfl⟩
    have hsm : (rowAt es es.length).length ≤ 2 := by
      unfold rowAt
      rw [List.length_map]
      exact headsAt_len es es.length
    have pn : H3 D = some (.lst ((List.replicate ql.length (2 : Int)).map V.int)) := by
      rw [pD.1, List.length_map]
      refine congrArg (fun l => some (HO.lst l)) ?_
      apply List.ext_getElem?
      intro i
      by_cases hi : i < ql.length
      · rw [List.getElem?_map, List.getElem?_range hi, List.getElem?_map, List.getElem?_replicate, if_pos hi]
        rfl
      · rw [List.getElem?_eq_none (by rw [List.length_map, List.length_range]; omega), List.getElem?_eq_none (by rw [List.length_map, List.length_replicate]; omega)]
    have g3 := pD.2
    have R := R.go g3
    have kl1 := g3.keep _ _ kl1 fun z => z
    refine ⟨(by show 1 ≤ sizeLine; decide), fun l hl => ?_⟩
    have nDl : D ≠ l := ne_of_none pn hl
    have pn := (upd_ne (o := HO.lst [.int 2]) nDl).trans pn
    have R := R.go ((Go.refl g3.inn).lay (.lst [.int 2]) hl)
    have nrl : rl ≠ l := ne_of_none kl1 hl
    have kl1 := (upd_ne (o := HO.lst [.int 2]) nrl).trans kl1
    have g4 := g3.lay (.lst [.int 2]) hl
    refine ⟨_, rfl, _, rfl, rw_, _, _, _, rfl, rfl, SqL.of R.hp, hlast, rl, _, rfl, .inl (SqL.of kl1), l, _, _, rfl, rfl, upd_same, by have := kl2.1; rw [List.length_map]; omega, by have := kl2.1; rw [List.length_map]; omega, mem_sz (by have := kl2.1; rw [List.length_map]; show 1 * _ ≤ _; omega), fun l2 hl2 => ?_⟩
    have nD2 : D ≠ l2 := ne_of_none pn hl2
    have pn := (upd_ne (o := HO.lst (List.replicate (((ql.map V.ref).length : Int)).toNat [V.int 2]).flatten) nD2).trans pn
    have R := R.go ((Go.refl g4.inn).lay (.lst (List.replicate (((ql.map V.ref).length : Int)).toNat [V.int 2]).flatten) hl2)
    have g5 := g4.lay (.lst (List.replicate (((ql.map V.ref).length : Int)).toNat [V.int 2]).flatten) hl2
    have hl22 := upd_same (H := upd H3 l (.lst [.int 2])) (a := l2) (o := HO.lst (List.replicate (((ql.map V.ref).length : Int)).toNat [V.int 2]).flatten)
    rw [rep_ints, Int.toNat_natCast, List.length_map] at hl22 pn R g5
    rw [rep_ints, Int.toNat_natCast, List.length_map]
    refine ⟨intsD (List.replicate ql.length 2), intsD (List.replicate ql.length 2), .lst (SqL.of pn) (dp_ints _), .lst (SqL.of hl22) (dp_ints _), intsD_shaped _, intsD_shaped _, ?_⟩
    rw [intsD_eq]
    refine ⟨_, rfl, ifF rfl ?_⟩
    clear pn hl22 g4 g3 hlast kl1 kl2 hrl hsm pD hD
    have e5 := g5.inn
    -- for at in range(len(track_here))
    refine ⟨_, rfl, p, _, rfl, .inl (SqL.of (e5 _ _ T.hr)), ?_⟩
    rw [lp]
    refine ⟨_, rfl, by omega, by omega, for_range (lo := 0) (n := es.length) (fun i σ H' => ∃ (v4 v5 v6 v7 v8 v9 v10 v11 v12 v13 v14 : Option V), σ = [some (.ref a), some (.ref d), some (.ref p), some (.ref rw_), v4, v5, v6, v7, v8, v9, v10, v11, v12, v13, v14] ∧ Go (fun _ => False) G1 H2 G1 H')
      ⟨none, none, none, none, none, none, none, none, none, none, none, rfl, g5⟩ (fun i σ H3' hi hP => ?_) (fun σ H3' hP => ?_)⟩
    · clear g5 e5 R
      obtain ⟨v4, v5, v6, v7, v8, v9, v10, v11, v12, v13, v14, rfl, g⟩ := hP
      have R := R0.go g
      obtain ⟨pe, e, hpe, he, hpx, ho⟩ := T.at_ hi
      have ez : (0 : Int) + (i : Int) = ((i : Nat) : Int) := Int.zero_add _
      have ez1 : (0 : Int) + (i : Int) + 1 = ((i + 1 : Nat) : Int) := by omega
      obtain ⟨r1, q1, hr1, k1, k2⟩ := R.row (i := i + 1) (by omega)
      -- onward = dict(rows[at + 1])
      refine ⟨_, rfl, _, rfl, _, _, rfl, rfl, rw_, _, _, _, rfl, rfl, SqL.of R.hp, at_n (j := i + 1) ez1 (map_ref hr1), r1, q1, kvI (rowAt es (i + 1)), rfl, SqL.of k1, prs_paired g.inn _ _ k2, fun pd hpd => ?_⟩
      have R := R.go ((Go.refl g.inn).put (.dK (mergeK [] (kvI (rowAt es (i + 1))))) hpd)
      obtain ⟨fD, hdd, hdk⟩ := row_dict es (i + 1) (upd_same (H := G1) (a := pd) (o := HO.dK (mergeK [] (kvI (rowAt es (i + 1))))))
      have g4 := g.put (.dK (mergeK [] (kvI (rowAt es (i + 1))))) hpd
      generalize upd G1 pd (.dK (mergeK [] (kvI (rowAt es (i + 1))))) = G4 at *
      generalize upd H3' pd (.dK (mergeK [] (kvI (rowAt es (i + 1))))) = H4 at *
      have T4 := T.up g4.up
      have t0 := tickAt_ok T.ok i
      have t1 := hup i e he
      have t2 := ho.tk
      -- gap_here = len(gap(gap_ahead(track_here, at)))
      refine ⟨_, rfl, _, rfl, p, i, ps, es, e, G4, congrArg (fun z => [V.ref p, V.int z]) ez, g4.inn, T4, he, (e.tick - tickAt es i).toNat, G4, congrArg (fun z => [V.int z]) (show e.tick - tickAt es i = (((e.tick - tickAt es i).toNat : Nat) : Int) by omega), by omega, g4.inn, fun l H5 g5 hl hl2 => ?_⟩
      have R := R.go g5
      have g5 := g4.then g5
      refine ⟨l, _, rfl, .inl (SqL.of hl2), ?_⟩
      rw [show ((nums (gapB (e.tick - tickAt es i).toNat)).length : Int) = gapL (e.tick - tickAt es i) by rw [nums_len]; rfl]
      -- for ahead, told in rows[at]
      obtain ⟨r0, q0, hr0, k3, k4⟩ := R.row (i := i) (by omega)
      have hsm := headsAt_len es i
      have lrow : (rowAt es i).length ≤ 2 := by
        unfold rowAt
        rw [List.length_map]
        exact hsm
      refine ⟨_, rfl, _, rfl, rw_, _, _, _, rfl, rfl, SqL.of R.hp, at_n (j := i) ez (map_ref hr0), r0, rfl, ⟨_, SqL.of k3⟩, for_list (xs := q0.map V.ref) (fun j σ H' => ∃ (v7 v8 v9 v10 v11 v12 v13 v14 : Option V), σ = [some (.ref a), some (.ref d), some (.ref p), some (.ref rw_), some (.int (0 + (i : Int))), some (.ref pd), some (.int (gapL (e.tick - tickAt es i))), v7, v8, v9, v10, v11, v12, v13, v14] ∧ Go (fun _ => False) G4 H5 G4 H')
        ⟨v7, v8, v9, v10, v11, v12, v13, v14, rfl, Go.refl g5.inn⟩ (fun j σ H' _ ⟨_, _, _, _, _, _, _, _, _, g⟩ => SqL.of (g.keep _ _ k3 fun z => z)) (fun j x σ H' hx hP => ?_) (fun σ H' hP => ?_)⟩
      · obtain ⟨v7, v8, v9, v10, v11, v12, v13, v14, rfl, g6⟩ := hP
        have hj : j < q0.length := by
          have := (List.getElem?_eq_some_iff.mp hx).1
          rwa [List.length_map] at this
        have hq : q0[j]? = some q0[j] := List.getElem?_eq_getElem hj
        have hjl : j < (rowAt es i).length := by rw [← k4.1]; exact hj
        have hrw : (rowAt es i)[j]? = some (rowAt es i)[j] := List.getElem?_eq_getElem hjl
        have h1 := k4.2 j _ _ hq hrw
        obtain ⟨ah, hah, eah⟩ : ∃ ah, ah ∈ headsAt es i ∧ (rowAt es i)[j] = (ah, pcAt es i ah) := by
          have hm : (rowAt es i)[j] ∈ rowAt es i := List.getElem_mem hjl
          obtain ⟨b, hb, e⟩ := List.mem_map.mp (show (rowAt es i)[j] ∈ (headsAt es i).map fun a => (a, pcAt es i a) from hm)
          exact ⟨b, hb, e.symm⟩
        rw [eah] at h1
        rw [map_ref hq] at hx
        obtain rfl := Option.some.inj hx
        refine ⟨q0[j], _, rfl, SqT.of (g6.inn _ _ h1), rfl, _, _, rfl, _, _, rfl, rfl, ?_⟩
        -- ways = []
        refine ⟨(by show 0 ≤ sizeLine; decide), fun w hw => ?_⟩
        have bw := g6.fresh hw
        have nw := g6.fresh0 hw
        have g7 := g6.lay (.lst []) hw
        -- for head, data in forms(track_here[at])
        refine ⟨_, rfl, _, rfl, p, _, _, _, rfl, rfl, SqL.of (g7.inn _ _ T4.hr), at_n (j := i) ez hpe, pe, e, G4, rfl, g7.inn, g4.up _ _ hpx, ho, fun lf rs2 G8 H8 g8 fm hlf => ?_⟩
        have hw8 := g8.keep w _ upd_same fun z => z
        have nw8 := g8.new w (by rw [upd_same]; simp) nw
        have hdd8 := hdd.up g8.up
        have g8 := g7.then g8
        have fl := forms_len e
        have fln := fm.ln
        refine ⟨lf, rfl, ⟨_, SqL.of (g8.inn _ _ fm.hp)⟩, for_list (xs := rs2.map V.ref) (fun m σ H' => ∃ (v10 v11 v12 v13 v14 : Option V), σ = [some (.ref a), some (.ref d), some (.ref p), some (.ref rw_), some (.int (0 + (i : Int))), some (.ref pd), some (.int (gapL (e.tick - tickAt es i))), some (.int ah), some (.int (pcAt es i ah)), some (.ref w), v10, v11, v12, v13, v14] ∧ Go (fun _ => False) G4 H5 G8 H' ∧ H' w = some (.lst (((e.forms.take m).map fun x => gapL (e.tick - tickAt es i) + fcost ah (pcAt es (i + 1)) x).map V.int)))
          ⟨v10, v11, v12, v13, v14, rfl, g8, hw8⟩ (fun m σ H' _ ⟨_, _, _, _, _, _, g, _⟩ => SqL.of (g.inn _ _ fm.hp)) (fun m x2 σ H' hx2 hP => ?_) (fun σ H' hP => ?_)⟩
        · obtain ⟨v10, v11, v12, v13, v14, rfl, g9, hw9⟩ := hP
          obtain ⟨r2, x1, rfl, hr2, hf2, b, f1, f2⟩ := fm.mem hx2
          have hxm : x1 ∈ e.forms := List.mem_of_getElem? hf2
          have hml := (List.getElem?_eq_some_iff.mp hf2).1
          refine ⟨r2, _, rfl, SqT.of (g9.inn _ _ f1), rfl, _, _, rfl, _, _, rfl, rfl, ?_⟩
          refine ⟨_, rfl, _, rfl, b, _, rfl, .inl (SqL.of (g9.inn _ _ f2)), _, _, rfl, rfl, _, rfl, _, rfl, rfl, .inr ⟨_, rfl, _, _, rfl, rfl, ?_⟩⟩
          refine ⟨_, rfl, .inl ⟨rfl, _, SqL.of hw9⟩, _, rfl, _, rfl, _, rfl, x1.1, rfl, pd, _, rfl, (hdd8.up g9.inn).get (hdk _ (left_in he hxm)), _, _, rfl, rfl, w, _, _, rfl, rfl, hw9, mem_lt (by rw [List.length_map, List.length_map, List.length_take]; omega), _, _, _, _, _, rfl, g9.turn _ bw nw8, ?_⟩
          rw [upd_same, take_snoc hf2, List.map_append, List.map_append]
          have ev : gapL (e.tick - tickAt es i) + ((x1.2.map V.int).length : Int) + (if (!decide (V.int x1.1 = V.int ah)) = true then 1 else 0) + pcAt es (i + 1) (left x1.1) = gapL (e.tick - tickAt es i) + fcost ah (pcAt es (i + 1)) x1 := by
            unfold fcost hcost
            rw [List.length_map]
            by_cases c : x1.1 = ah
            · rw [if_pos c, decide_eq_true (by rw [c]), if_neg (by decide)]
              omega
            · rw [if_neg c, decide_eq_false (fun z => c (V.int.inj z)), if_pos (by decide)]
              omega
          exact congrArg (fun z => some (HO.lst (_ ++ [V.int z]))) ev
        · obtain ⟨v10, v11, v12, v13, v14, rfl, g9, hw9⟩ := hP
          have ll : (rs2.map V.ref).length = e.forms.length := by rw [List.length_map, fln]
          rw [ll, List.take_length] at hw9
          have hb := bestF_in (fcost ah (pcAt es (i + 1))) (fs := e.forms) (by omega)
          have estep := pcAt_step he ah
          have inw : pcAt es i ah ∈ e.forms.map fun x => gapL (e.tick - tickAt es i) + fcost ah (pcAt es (i + 1)) x := List.mem_map.mpr ⟨_, hb.1, estep.symm⟩
          have lew : ∀ z ∈ (e.forms.map fun x => gapL (e.tick - tickAt es i) + fcost ah (pcAt es (i + 1)) x), pcAt es i ah ≤ z := fun z hz => by
            obtain ⟨x, hx, rfl⟩ := List.mem_map.mp hz
            have := hb.2 x hx
            omega
          generalize hL : (e.forms.map fun x => gapL (e.tick - tickAt es i) + fcost ah (pcAt es (i + 1)) x) = L at *
          have Ll : L.length ≤ 2 := by
            rw [← hL, List.length_map]
            exact fl.2
          -- if told not in ways or any([..])
          refine ⟨_, rfl, _, rfl, w, _, rfl, .inl (SqL.of hw9), rfl, flat_ints _, ?_⟩
          rw [if_pos rfl, in_ints inw]
          refine ⟨_, rfl, ifF rfl ?_⟩
          refine ⟨_, rfl, w, rfl, ⟨_, SqL.of hw9⟩, fun D hD => lc_list (xs := L.map V.int) (LcP D G8 H' fun _ => .bl false) (LcP.start (Go.refl g9.inn) hD) (fun m H'' _ pp => SqL.of (pp.2.keep _ _ hw9 fun z => z)) (fun m x2 H'' hx2 pp => ?_) (fun H'' pp => ?_)⟩
          · obtain ⟨z, hz, rfl⟩ := map_int_inv hx2
            have hml := (List.getElem?_eq_some_iff.mp hz).1
            refine ⟨rfl, ?_⟩
            refine ⟨_, rfl, _, rfl, _, _, rfl, rfl, LcP.step (Go.refl g9.inn) hD pp (by omega) (Go.refl pp.2.inn) ?_⟩
            exact congrArg V.bl (decide_eq_false (by have := lew z (List.mem_of_getElem? hz); omega))
          · have pn : H'' D = some (.lst ((List.replicate L.length false).map V.bl)) := by
              rw [pp.1, List.length_map]
              refine congrArg (fun l => some (HO.lst l)) ?_
              apply List.ext_getElem?
              intro i
              by_cases hi : i < L.length
              · rw [List.getElem?_map, List.getElem?_range hi, List.getElem?_map, List.getElem?_replicate, if_pos hi]
                rfl
              · rw [List.getElem?_eq_none (by rw [List.length_map, List.length_range]; omega), List.getElem?_eq_none (by rw [List.length_map, List.length_replicate]; omega)]
            refine ⟨D, _, rfl, SqL.of pn, _, rfl, ifF (any_rep _) ?_⟩
            exact ⟨_, _, _, _, _, _, _, _, rfl, (g9.then pp.2).weak⟩
      · obtain ⟨v7, v8, v9, v10, v11, v12, v13, v14, rfl, g6⟩ := hP
        exact ⟨_, _, _, _, _, _, _, _, _, _, _, rfl, ((g5.then g6).weak : Go (fun _ => False) G1 H2 G1 H')⟩
    · clear g5 e5 R
      obtain ⟨v4, v5, v6, v7, v8, v9, v10, v11, v12, v13, v14, rfl, g⟩ := hP
      have R := R0.go g
      have e6 := g.inn
      -- return len(written(track_here)) == rows[0][0][1] and len(rows[0]) == 1
      refine ⟨_, rfl, p, ps, es, G1, rfl, e6, T, hup, fun l G7 H7 g7 hl nl hl2 => ?_⟩
      have R := R.go g7
      obtain ⟨r0, q0, hr0, k3, k4⟩ := R.row (i := 0) (by omega)
      obtain ⟨q1, rfl⟩ : ∃ q1, q0 = [q1] := by
        match q0, k4.1 with
        | [q1], _ => exact ⟨q1, rfl⟩
      have k5 := k4.2 0 q1 _ rfl rfl
      refine ⟨l, _, rfl, .inl (SqL.of hl2), _, rfl, rw_, _, _, _, rfl, rfl, SqL.of R.hp, at_of (j := 0) rfl (map_ref hr0), r0, _, _, _, rfl, rfl, SqL.of k3, at_of (j := 0) rfl rfl, q1, _, _, _, rfl, rfl, SqT.of (g7.inn _ _ k5), at_of (j := 1) rfl rfl, rfl, _, rfl, ifT ?_ ?_⟩
      · rw [List.length_map]
        refine decide_eq_true (congrArg V.int ?_)
        exact wr_len (es.drop 0) (tickAt es 0) 0
      · refine ⟨_, rfl, rw_, _, _, _, rfl, rfl, SqL.of R.hp, at_of (j := 0) rfl (map_ref hr0), r0, _, rfl, .inl (SqL.of k3), rfl, ?_⟩
        exact q H7
end
end Rt

namespace Rt
open PySem PySem.Spec PyProof.Rows L2
section
variable {P : Program} {w : World} {K : PySem.W.Frag} {mg : Str → Option Value} {base : Heap}
end
theorem all_mk {l : PySem.W.OpenLaw} {w : World} {K : PySem.W.Frag} {h : Heap} {mg : Str → Option Value} {fa : Addr} (X : K.In h) (G : h.Ns mainGlobals mg) (hfa : mg "law" = some (.ref fa))
    {f1 : Addr} {od1 an1 : Option Addr} {sl1 : Array (Option Value)} {oc1 kV1 dc1 pm1 cd1 ct1 : Value}
    (a1 : PySem.W.nsIn K mainGlobals "_law_begin" = some (some (.ref f1)))
    (l1 : K.lookup f1 = some ⟨oc1, od1, .func (PySem.W.fnOf "_law_begin" "_law_begin" (defArgs s_begin) (defBody s_begin) (defScope s_begin) .none kV1 dc1 pm1 an1 cd1 ct1), sl1⟩)
    (c1 : PySem.W.codeIn K cd1 "_law_begin" = true) (k1 : PySem.W.keepIn K (.ref f1) = true)
    {f2 : Addr} {od2 an2 : Option Addr} {sl2 : Array (Option Value)} {oc2 kV2 dc2 pm2 cd2 ct2 : Value}
    (a2 : PySem.W.nsIn K mainGlobals "_law_pick" = some (some (.ref f2)))
    (l2 : K.lookup f2 = some ⟨oc2, od2, .func (PySem.W.fnOf "_law_pick" "_law_pick" (defArgs s_pick) (defBody s_pick) (defScope s_pick) .none kV2 dc2 pm2 an2 cd2 ct2), sl2⟩)
    (c2 : PySem.W.codeIn K cd2 "_law_pick" = true) (k2 : PySem.W.keepIn K (.ref f2) = true)
    {f3 : Addr} {od3 an3 : Option Addr} {sl3 : Array (Option Value)} {oc3 kV3 dc3 pm3 cd3 ct3 : Value}
    (a3 : PySem.W.nsIn K mainGlobals "_law_channel" = some (some (.ref f3)))
    (l3 : K.lookup f3 = some ⟨oc3, od3, .func (PySem.W.fnOf "_law_channel" "_law_channel" (defArgs s_channel) (defBody s_channel) (defScope s_channel) .none kV3 dc3 pm3 an3 cd3 ct3), sl3⟩)
    (c3 : PySem.W.codeIn K cd3 "_law_channel" = true) (k3 : PySem.W.keepIn K (.ref f3) = true)
    {f4 : Addr} {od4 an4 : Option Addr} {sl4 : Array (Option Value)} {oc4 kV4 dc4 pm4 cd4 ct4 : Value}
    (a4 : PySem.W.nsIn K mainGlobals "_law_key" = some (some (.ref f4)))
    (l4 : K.lookup f4 = some ⟨oc4, od4, .func (PySem.W.fnOf "_law_key" "_law_key" (defArgs s_key) (defBody s_key) (defScope s_key) .none kV4 dc4 pm4 an4 cd4 ct4), sl4⟩)
    (c4 : PySem.W.codeIn K cd4 "_law_key" = true) (k4 : PySem.W.keepIn K (.ref f4) = true)
    {f5 : Addr} {od5 an5 : Option Addr} {sl5 : Array (Option Value)} {oc5 kV5 dc5 pm5 cd5 ct5 : Value}
    (a5 : PySem.W.nsIn K mainGlobals "_law_word" = some (some (.ref f5)))
    (l5 : K.lookup f5 = some ⟨oc5, od5, .func (PySem.W.fnOf "_law_word" "_law_word" (defArgs s_word) (defBody s_word) (defScope s_word) .none kV5 dc5 pm5 an5 cd5 ct5), sl5⟩)
    (c5 : PySem.W.codeIn K cd5 "_law_word" = true) (k5 : PySem.W.keepIn K (.ref f5) = true)
    {f6 : Addr} {od6 an6 : Option Addr} {sl6 : Array (Option Value)} {oc6 kV6 dc6 pm6 cd6 ct6 : Value}
    (a6 : PySem.W.nsIn K mainGlobals "_law_thing" = some (some (.ref f6)))
    (l6 : K.lookup f6 = some ⟨oc6, od6, .func (PySem.W.fnOf "_law_thing" "_law_thing" (defArgs s_thing) (defBody s_thing) (defScope s_thing) .none kV6 dc6 pm6 an6 cd6 ct6), sl6⟩)
    (c6 : PySem.W.codeIn K cd6 "_law_thing" = true) (k6 : PySem.W.keepIn K (.ref f6) = true)
    {f7 : Addr} {od7 an7 : Option Addr} {sl7 : Array (Option Value)} {oc7 kV7 dc7 pm7 cd7 ct7 : Value}
    (a7 : PySem.W.nsIn K mainGlobals "_law_gap_of" = some (some (.ref f7)))
    (l7 : K.lookup f7 = some ⟨oc7, od7, .func (PySem.W.fnOf "_law_gap_of" "_law_gap_of" (defArgs s_gap_of) (defBody s_gap_of) (defScope s_gap_of) .none kV7 dc7 pm7 an7 cd7 ct7), sl7⟩)
    (c7 : PySem.W.codeIn K cd7 "_law_gap_of" = true) (k7 : PySem.W.keepIn K (.ref f7) = true)
    {f8 : Addr} {od8 an8 : Option Addr} {sl8 : Array (Option Value)} {oc8 kV8 dc8 pm8 cd8 ct8 : Value}
    (a8 : PySem.W.nsIn K mainGlobals "_law_track" = some (some (.ref f8)))
    (l8 : K.lookup f8 = some ⟨oc8, od8, .func (PySem.W.fnOf "_law_track" "_law_track" (defArgs s_track) (defBody s_track) (defScope s_track) .none kV8 dc8 pm8 an8 cd8 ct8), sl8⟩)
    (c8 : PySem.W.codeIn K cd8 "_law_track" = true) (k8 : PySem.W.keepIn K (.ref f8) = true)
    {f9 : Addr} {od9 an9 : Option Addr} {sl9 : Array (Option Value)} {oc9 kV9 dc9 pm9 cd9 ct9 : Value}
    (a9 : PySem.W.nsIn K mainGlobals "gap_bytes" = some (some (.ref f9)))
    (l9 : K.lookup f9 = some ⟨oc9, od9, .func (PySem.W.fnOf "gap_bytes" "gap_bytes" (defArgs s_gap_bytes) (defBody s_gap_bytes) (defScope s_gap_bytes) .none kV9 dc9 pm9 an9 cd9 ct9), sl9⟩)
    (c9 : PySem.W.codeIn K cd9 "gap_bytes" = true) (k9 : PySem.W.keepIn K (.ref f9) = true)
    {f10 : Addr} {od10 an10 : Option Addr} {sl10 : Array (Option Value)} {oc10 kV10 dc10 pm10 cd10 ct10 : Value}
    (a10 : PySem.W.nsIn K mainGlobals "forms" = some (some (.ref f10)))
    (l10 : K.lookup f10 = some ⟨oc10, od10, .func (PySem.W.fnOf "forms" "forms" (defArgs s_forms) (defBody s_forms) (defScope s_forms) .none kV10 dc10 pm10 an10 cd10 ct10), sl10⟩)
    (c10 : PySem.W.codeIn K cd10 "forms" = true) (k10 : PySem.W.keepIn K (.ref f10) = true)
    {f11 : Addr} {od11 an11 : Option Addr} {sl11 : Array (Option Value)} {oc11 kV11 dc11 pm11 cd11 ct11 : Value}
    (a11 : PySem.W.nsIn K mainGlobals "left_by" = some (some (.ref f11)))
    (l11 : K.lookup f11 = some ⟨oc11, od11, .func (PySem.W.fnOf "left_by" "left_by" (defArgs s_left_by) (defBody s_left_by) (defScope s_left_by) .none kV11 dc11 pm11 an11 cd11 ct11), sl11⟩)
    (c11 : PySem.W.codeIn K cd11 "left_by" = true) (k11 : PySem.W.keepIn K (.ref f11) = true)
    {f12 : Addr} {od12 an12 : Option Addr} {sl12 : Array (Option Value)} {oc12 kV12 dc12 pm12 cd12 ct12 : Value}
    (a12 : PySem.W.nsIn K mainGlobals "head_cost" = some (some (.ref f12)))
    (l12 : K.lookup f12 = some ⟨oc12, od12, .func (PySem.W.fnOf "head_cost" "head_cost" (defArgs s_head_cost) (defBody s_head_cost) (defScope s_head_cost) .none kV12 dc12 pm12 an12 cd12 ct12), sl12⟩)
    (c12 : PySem.W.codeIn K cd12 "head_cost" = true) (k12 : PySem.W.keepIn K (.ref f12) = true)
    {f13 : Addr} {od13 an13 : Option Addr} {sl13 : Array (Option Value)} {oc13 kV13 dc13 pm13 cd13 ct13 : Value}
    (a13 : PySem.W.nsIn K mainGlobals "gap_at" = some (some (.ref f13)))
    (l13 : K.lookup f13 = some ⟨oc13, od13, .func (PySem.W.fnOf "gap_at" "gap_at" (defArgs s_gap_at) (defBody s_gap_at) (defScope s_gap_at) .none kV13 dc13 pm13 an13 cd13 ct13), sl13⟩)
    (c13 : PySem.W.codeIn K cd13 "gap_at" = true) (k13 : PySem.W.keepIn K (.ref f13) = true)
    {f14 : Addr} {od14 an14 : Option Addr} {sl14 : Array (Option Value)} {oc14 kV14 dc14 pm14 cd14 ct14 : Value}
    (a14 : PySem.W.nsIn K mainGlobals "heads_at" = some (some (.ref f14)))
    (l14 : K.lookup f14 = some ⟨oc14, od14, .func (PySem.W.fnOf "heads_at" "heads_at" (defArgs s_heads_at) (defBody s_heads_at) (defScope s_heads_at) .none kV14 dc14 pm14 an14 cd14 ct14), sl14⟩)
    (c14 : PySem.W.codeIn K cd14 "heads_at" = true) (k14 : PySem.W.keepIn K (.ref f14) = true)
    {f15 : Addr} {od15 an15 : Option Addr} {sl15 : Array (Option Value)} {oc15 kV15 dc15 pm15 cd15 ct15 : Value}
    (a15 : PySem.W.nsIn K mainGlobals "form_cost" = some (some (.ref f15)))
    (l15 : K.lookup f15 = some ⟨oc15, od15, .func (PySem.W.fnOf "form_cost" "form_cost" (defArgs s_form_cost) (defBody s_form_cost) (defScope s_form_cost) .none kV15 dc15 pm15 an15 cd15 ct15), sl15⟩)
    (c15 : PySem.W.codeIn K cd15 "form_cost" = true) (k15 : PySem.W.keepIn K (.ref f15) = true)
    {f16 : Addr} {od16 an16 : Option Addr} {sl16 : Array (Option Value)} {oc16 kV16 dc16 pm16 cd16 ct16 : Value}
    (a16 : PySem.W.nsIn K mainGlobals "best_form" = some (some (.ref f16)))
    (l16 : K.lookup f16 = some ⟨oc16, od16, .func (PySem.W.fnOf "best_form" "best_form" (defArgs s_best_form) (defBody s_best_form) (defScope s_best_form) .none kV16 dc16 pm16 an16 cd16 ct16), sl16⟩)
    (c16 : PySem.W.codeIn K cd16 "best_form" = true) (k16 : PySem.W.keepIn K (.ref f16) = true)
    {f17 : Addr} {od17 an17 : Option Addr} {sl17 : Array (Option Value)} {oc17 kV17 dc17 pm17 cd17 ct17 : Value}
    (a17 : PySem.W.nsIn K mainGlobals "prices_at" = some (some (.ref f17)))
    (l17 : K.lookup f17 = some ⟨oc17, od17, .func (PySem.W.fnOf "prices_at" "prices_at" (defArgs s_prices_at) (defBody s_prices_at) (defScope s_prices_at) .none kV17 dc17 pm17 an17 cd17 ct17), sl17⟩)
    (c17 : PySem.W.codeIn K cd17 "prices_at" = true) (k17 : PySem.W.keepIn K (.ref f17) = true)
    {f18 : Addr} {od18 an18 : Option Addr} {sl18 : Array (Option Value)} {oc18 kV18 dc18 pm18 cd18 ct18 : Value}
    (a18 : PySem.W.nsIn K mainGlobals "prices" = some (some (.ref f18)))
    (l18 : K.lookup f18 = some ⟨oc18, od18, .func (PySem.W.fnOf "prices" "prices" (defArgs s_prices) (defBody s_prices) (defScope s_prices) .none kV18 dc18 pm18 an18 cd18 ct18), sl18⟩)
    (c18 : PySem.W.codeIn K cd18 "prices" = true) (k18 : PySem.W.keepIn K (.ref f18) = true)
    {f19 : Addr} {od19 an19 : Option Addr} {sl19 : Array (Option Value)} {oc19 kV19 dc19 pm19 cd19 ct19 : Value}
    (a19 : PySem.W.nsIn K mainGlobals "written" = some (some (.ref f19)))
    (l19 : K.lookup f19 = some ⟨oc19, od19, .func (PySem.W.fnOf "written" "written" (defArgs s_written) (defBody s_written) (defScope s_written) .none kV19 dc19 pm19 an19 cd19 ct19), sl19⟩)
    (c19 : PySem.W.codeIn K cd19 "written" = true) (k19 : PySem.W.keepIn K (.ref f19) = true)
    {f20 : Addr} {od20 an20 : Option Addr} {sl20 : Array (Option Value)} {oc20 kV20 dc20 pm20 cd20 ct20 : Value}
    (a20 : PySem.W.nsIn K mainGlobals "_law_left" = some (some (.ref f20)))
    (l20 : K.lookup f20 = some ⟨oc20, od20, .func (PySem.W.fnOf "_law_left" "_law_left" (defArgs s_law_left) (defBody s_law_left) (defScope s_law_left) .none kV20 dc20 pm20 an20 cd20 ct20), sl20⟩)
    (c20 : PySem.W.codeIn K cd20 "_law_left" = true) (k20 : PySem.W.keepIn K (.ref f20) = true)
    {f21 : Addr} {od21 an21 : Option Addr} {sl21 : Array (Option Value)} {oc21 kV21 dc21 pm21 cd21 ct21 : Value}
    (a21 : PySem.W.nsIn K mainGlobals "_law_forms" = some (some (.ref f21)))
    (l21 : K.lookup f21 = some ⟨oc21, od21, .func (PySem.W.fnOf "_law_forms" "_law_forms" (defArgs s_law_forms) (defBody s_law_forms) (defScope s_law_forms) .none kV21 dc21 pm21 an21 cd21 ct21), sl21⟩)
    (c21 : PySem.W.codeIn K cd21 "_law_forms" = true) (k21 : PySem.W.keepIn K (.ref f21) = true)
    {f22 : Addr} {od22 an22 : Option Addr} {sl22 : Array (Option Value)} {oc22 kV22 dc22 pm22 cd22 ct22 : Value}
    (a22 : PySem.W.nsIn K mainGlobals "_law_gap" = some (some (.ref f22)))
    (l22 : K.lookup f22 = some ⟨oc22, od22, .func (PySem.W.fnOf "_law_gap" "_law_gap" (defArgs s_law_gap) (defBody s_law_gap) (defScope s_law_gap) .none kV22 dc22 pm22 an22 cd22 ct22), sl22⟩)
    (c22 : PySem.W.codeIn K cd22 "_law_gap" = true) (k22 : PySem.W.keepIn K (.ref f22) = true)
    {f23 : Addr} {od23 an23 : Option Addr} {sl23 : Array (Option Value)} {oc23 kV23 dc23 pm23 cd23 ct23 : Value}
    (a23 : PySem.W.nsIn K mainGlobals "_law_gap_ahead" = some (some (.ref f23)))
    (l23 : K.lookup f23 = some ⟨oc23, od23, .func (PySem.W.fnOf "_law_gap_ahead" "_law_gap_ahead" (defArgs s_law_gap_ahead) (defBody s_law_gap_ahead) (defScope s_law_gap_ahead) .none kV23 dc23 pm23 an23 cd23 ct23), sl23⟩)
    (c23 : PySem.W.codeIn K cd23 "_law_gap_ahead" = true) (k23 : PySem.W.keepIn K (.ref f23) = true)
    {f24 : Addr} {od24 an24 : Option Addr} {sl24 : Array (Option Value)} {oc24 kV24 dc24 pm24 cd24 ct24 : Value}
    (a24 : PySem.W.nsIn K mainGlobals "law" = some (some (.ref f24)))
    (l24 : K.lookup f24 = some ⟨oc24, od24, .func (PySem.W.fnOf "law" "law" (defArgs s_law_k12) (defBody s_law_k12) (defScope s_law_k12) .none kV24 dc24 pm24 an24 cd24 ct24), sl24⟩)
    (c24 : PySem.W.codeIn K cd24 "law" = true) (k24 : PySem.W.keepIn K (.ref f24) = true)
    (z_list : PySem.W.nsIn K mainGlobals "list" = some none)
    (z_len : PySem.W.nsIn K mainGlobals "len" = some none)
    (z_range : PySem.W.nsIn K mainGlobals "range" = some none)
    (z_int : PySem.W.nsIn K mainGlobals "int" = some none)
    (z_min : PySem.W.nsIn K mainGlobals "min" = some none)
    (z_ord : PySem.W.nsIn K mainGlobals "ord" = some none)
    (z_dict : PySem.W.nsIn K mainGlobals "dict" = some none)
    (z_reversed : PySem.W.nsIn K mainGlobals "reversed" = some none)
    (z_enumerate : PySem.W.nsIn K mainGlobals "enumerate" = some none)
    (z_any : PySem.W.nsIn K mainGlobals "any" = some none)
    {q1 : Tok}
    (g_MOST_GAP : PySem.W.nsIn K mainGlobals "MOST_GAP" = some (some (.int 268435455 q1)))
    {q2 : Tok}
    (g_BASE : PySem.W.nsIn K mainGlobals "BASE" = some (some (.int 128 q2)))
    {q3 : Tok}
    (g_NO_HEAD : PySem.W.nsIn K mainGlobals "NO_HEAD" = some (some (.int 0 q3)))
    {q4 : Tok}
    (g_END_FORCE : PySem.W.nsIn K mainGlobals "END_FORCE" = some (some (.int 64 q4)))
    {G_HEADS : Addr} (h_HEADS : PySem.W.nsIn K mainGlobals "HEADS" = some (some (.ref G_HEADS)))
    {G_END : Addr} (h_END : PySem.W.nsIn K mainGlobals "END" = some (some (.ref G_END)))
    {nH : Nat} {hh1 hh2 hh3 hh4 hh5 : Int} {th1 th2 th3 th4 th5 uh1 uh2 uh3 uh4 uh5 : Tok} (lH : K.lookup G_HEADS = some ⟨.type "dict", none, .dict #[⟨hh1, .str "off" th1, .int 128 uh1⟩, ⟨hh2, .str "on" th2, .int 144 uh2⟩, ⟨hh3, .str "knob" th3, .int 160 uh3⟩, ⟨hh4, .str "voice" th4, .int 176 uh4⟩, ⟨hh5, .str "mark" th5, .int 240 uh5⟩] nH, #[]⟩)
    (kH1 : hh1 = PyData.keyHash w.params "off") (nH1 : PySem.W.nsIn K G_HEADS "off" = some (some (.int 128 uh1)))
    (kH2 : hh2 = PyData.keyHash w.params "on") (nH2 : PySem.W.nsIn K G_HEADS "on" = some (some (.int 144 uh2)))
    (kH3 : hh3 = PyData.keyHash w.params "knob") (nH3 : PySem.W.nsIn K G_HEADS "knob" = some (some (.int 160 uh3)))
    (kH4 : hh4 = PyData.keyHash w.params "voice") (nH4 : PySem.W.nsIn K G_HEADS "voice" = some (some (.int 176 uh4)))
    (kH5 : hh5 = PyData.keyHash w.params "mark") (nH5 : PySem.W.nsIn K G_HEADS "mark" = some (some (.int 240 uh5)))
    {odE : Option Addr} {nE : Nat} {slE : Array (Option Value)} {te1 te2 : Tok} (lE : K.lookup G_END = some ⟨.type "tuple", odE, .seq #[.int 0 te1, .int 255 te2] nE, slE⟩)
    : LamX.LawAtS l w K CX0 7 63 "_law_script" mg fa h := by
  have e := hfa.symm.trans (PySem.W.mg_of X G a24)
  cases e
  have m_list := PySem.W.mg_none_of X G z_list
  have m_len := PySem.W.mg_none_of X G z_len
  have m_range := PySem.W.mg_none_of X G z_range
  have m_int := PySem.W.mg_none_of X G z_int
  have m_min := PySem.W.mg_none_of X G z_min
  have m_ord := PySem.W.mg_none_of X G z_ord
  have m_dict := PySem.W.mg_none_of X G z_dict
  have m_reversed := PySem.W.mg_none_of X G z_reversed
  have m_enumerate := PySem.W.mg_none_of X G z_enumerate
  have m_any := PySem.W.mg_none_of X G z_any
  have g_HEADS := PySem.W.mg_of X G h_HEADS
  have g_END := PySem.W.mg_of X G h_END
  have c_MOST_GAP : ∃ u, mg "MOST_GAP" = some u ∧ L2.RelV (.int 268435455) u := ⟨_, PySem.W.mg_of X G g_MOST_GAP, ⟨_, rfl⟩⟩
  have c_BASE : ∃ u, mg "BASE" = some u ∧ L2.RelV (.int 128) u := ⟨_, PySem.W.mg_of X G g_BASE, ⟨_, rfl⟩⟩
  have c_NO_HEAD : ∃ u, mg "NO_HEAD" = some u ∧ L2.RelV (.int 0) u := ⟨_, PySem.W.mg_of X G g_NO_HEAD, ⟨_, rfl⟩⟩
  have c_END_FORCE : ∃ u, mg "END_FORCE" = some u ∧ L2.RelV (.int 64) u := ⟨_, PySem.W.mg_of X G g_END_FORCE, ⟨_, rfl⟩⟩
  have F1 := fun_mk (st := s_begin) l1 c1 k1
  have g1 := PySem.W.mg_of X G a1
  have b1 := F1.binds (ps := ["_law_script"]) fun _ _ _ _ _ _ us hl => match us, hl with | [_], _ => rfl
  have F2 := fun_mk (st := s_pick) l2 c2 k2
  have g2 := PySem.W.mg_of X G a2
  have b2 := F2.binds (ps := ["_law_draw", "_law_many"]) fun _ _ _ _ _ _ us hl => match us, hl with | [_, _], _ => rfl
  have F3 := fun_mk (st := s_channel) l3 c3 k3
  have g3 := PySem.W.mg_of X G a3
  have b3 := F3.binds (ps := ["_law_draw"]) fun _ _ _ _ _ _ us hl => match us, hl with | [_], _ => rfl
  have F4 := fun_mk (st := s_key) l4 c4 k4
  have g4 := PySem.W.mg_of X G a4
  have b4 := F4.binds (ps := ["_law_draw"]) fun _ _ _ _ _ _ us hl => match us, hl with | [_], _ => rfl
  have F5 := fun_mk (st := s_word) l5 c5 k5
  have g5 := PySem.W.mg_of X G a5
  have b5 := F5.binds (ps := ["_law_draw", "_law_most"]) fun _ _ _ _ _ _ us hl => match us, hl with | [_, _], _ => rfl
  have F6 := fun_mk (st := s_thing) l6 c6 k6
  have g6 := PySem.W.mg_of X G a6
  have b6 := F6.binds (ps := ["_law_draw"]) fun _ _ _ _ _ _ us hl => match us, hl with | [_], _ => rfl
  have F7 := fun_mk (st := s_gap_of) l7 c7 k7
  have g7 := PySem.W.mg_of X G a7
  have b7 := F7.binds (ps := ["_law_draw"]) fun _ _ _ _ _ _ us hl => match us, hl with | [_], _ => rfl
  have F8 := fun_mk (st := s_track) l8 c8 k8
  have g8 := PySem.W.mg_of X G a8
  have b8 := F8.binds (ps := ["_law_draw", "_law_most"]) fun _ _ _ _ _ _ us hl => match us, hl with | [_, _], _ => rfl
  have F9 := fun_mk (st := s_gap_bytes) l9 c9 k9
  have g9 := PySem.W.mg_of X G a9
  have b9 := F9.binds (ps := ["number"]) fun _ _ _ _ _ _ us hl => match us, hl with | [_], _ => rfl
  have F10 := fun_mk (st := s_forms) l10 c10 k10
  have g10 := PySem.W.mg_of X G a10
  have b10 := F10.binds (ps := ["event"]) fun _ _ _ _ _ _ us hl => match us, hl with | [_], _ => rfl
  have F11 := fun_mk (st := s_left_by) l11 c11 k11
  have g11 := PySem.W.mg_of X G a11
  have b11 := F11.binds (ps := ["head"]) fun _ _ _ _ _ _ us hl => match us, hl with | [_], _ => rfl
  have F12 := fun_mk (st := s_head_cost) l12 c12 k12
  have g12 := PySem.W.mg_of X G a12
  have b12 := F12.binds (ps := ["ahead", "head"]) fun _ _ _ _ _ _ us hl => match us, hl with | [_, _], _ => rfl
  have F13 := fun_mk (st := s_gap_at) l13 c13 k13
  have g13 := PySem.W.mg_of X G a13
  have b13 := F13.binds (ps := ["track", "place"]) fun _ _ _ _ _ _ us hl => match us, hl with | [_, _], _ => rfl
  have F14 := fun_mk (st := s_heads_at) l14 c14 k14
  have g14 := PySem.W.mg_of X G a14
  have b14 := F14.binds (ps := ["track", "place"]) fun _ _ _ _ _ _ us hl => match us, hl with | [_, _], _ => rfl
  have F15 := fun_mk (st := s_form_cost) l15 c15 k15
  have g15 := PySem.W.mg_of X G a15
  have b15 := F15.binds (ps := ["form", "ahead", "after"]) fun _ _ _ _ _ _ us hl => match us, hl with | [_, _, _], _ => rfl
  have F16 := fun_mk (st := s_best_form) l16 c16 k16
  have g16 := PySem.W.mg_of X G a16
  have b16 := F16.binds (ps := ["event", "ahead", "after"]) fun _ _ _ _ _ _ us hl => match us, hl with | [_, _, _], _ => rfl
  have F17 := fun_mk (st := s_prices_at) l17 c17 k17
  have g17 := PySem.W.mg_of X G a17
  have b17 := F17.binds (ps := ["track", "place", "after"]) fun _ _ _ _ _ _ us hl => match us, hl with | [_, _, _], _ => rfl
  have F18 := fun_mk (st := s_prices) l18 c18 k18
  have g18 := PySem.W.mg_of X G a18
  have b18 := F18.binds (ps := ["track"]) fun _ _ _ _ _ _ us hl => match us, hl with | [_], _ => rfl
  have F19 := fun_mk (st := s_written) l19 c19 k19
  have g19 := PySem.W.mg_of X G a19
  have b19 := F19.binds (ps := ["track"]) fun _ _ _ _ _ _ us hl => match us, hl with | [_], _ => rfl
  have F20 := fun_mk (st := s_law_left) l20 c20 k20
  have g20 := PySem.W.mg_of X G a20
  have b20 := F20.binds (ps := ["_law_head"]) fun _ _ _ _ _ _ us hl => match us, hl with | [_], _ => rfl
  have F21 := fun_mk (st := s_law_forms) l21 c21 k21
  have g21 := PySem.W.mg_of X G a21
  have b21 := F21.binds (ps := ["_law_event"]) fun _ _ _ _ _ _ us hl => match us, hl with | [_], _ => rfl
  have F22 := fun_mk (st := s_law_gap) l22 c22 k22
  have g22 := PySem.W.mg_of X G a22
  have b22 := F22.binds (ps := ["_law_number"]) fun _ _ _ _ _ _ us hl => match us, hl with | [_], _ => rfl
  have F23 := fun_mk (st := s_law_gap_ahead) l23 c23 k23
  have g23 := PySem.W.mg_of X G a23
  have b23 := F23.binds (ps := ["_law_track_here", "_law_at"]) fun _ _ _ _ _ _ us hl => match us, hl with | [_, _], _ => rfl
  have F24 := fun_mk (st := s_law_k12) l24 c24 k24
  have g24 := PySem.W.mg_of X G a24
  refine ⟨PySem.W.fnOf "law" "law" (defArgs s_law_k12) (defBody s_law_k12) (defScope s_law_k12) .none kV24 dc24 pm24 an24 cd24 ct24, [], spLaw K, (fun _ h => nomatch h), (fun _ h => nomatch h), (fun _ h => nomatch h), fun s v => .of_eq rfl, fun H a ns hl hbits hT hS => ?hsp, fun base Kb Gb TB => ?_⟩
  case hsp =>
    exact ⟨a, ns, rfl, hS, fun _ => rfl⟩
  have D__law_begin : Def l.prog w K mg base "_law_begin" 1 (spBegin K) := ⟨_, _, _, _, g1, ok_begin (P := l.prog) (w := w) (base := base) F1 m_list, k1, b1, .nil⟩
  have D__law_pick : Def l.prog w K mg base "_law_pick" 1 spPick := ⟨_, _, _, _, g2, ok_pick (P := l.prog) (w := w) (base := base) F2 m_len, k2, b2, .nil⟩
  have D__law_channel : Def l.prog w K mg base "_law_channel" 2 (spInts 0 15) := ⟨_, _, _, _, g3, ok_channel (P := l.prog) (w := w) (base := base) F3 D__law_pick, k3, b3, .nil⟩
  have D__law_key : Def l.prog w K mg base "_law_key" 2 (spInts 0 127) := ⟨_, _, _, _, g4, ok_key (P := l.prog) (w := w) (base := base) F4 D__law_pick, k4, b4, .nil⟩
  have D__law_word : Def l.prog w K mg base "_law_word" 2 spWord := ⟨_, _, _, _, g5, ok_word (P := l.prog) (w := w) (base := base) F5 D__law_pick m_range, k5, b5, .nil⟩
  have D__law_thing : Def l.prog w K mg base "_law_thing" 3 spThing := ⟨_, _, _, _, g6, ok_thing (P := l.prog) (w := w) (base := base) F6 D__law_pick D__law_channel D__law_key D__law_word, k6, b6, .nil⟩
  have D__law_gap_of : Def l.prog w K mg base "_law_gap_of" 2 (spInts 0 999999) := ⟨_, _, _, _, g7, ok_gap_of (P := l.prog) (w := w) (base := base) F7 D__law_pick, k7, b7, .nil⟩
  have D__law_track : Def l.prog w K mg base "_law_track" 4 spTrack := ⟨_, _, _, _, g8, ok_track (P := l.prog) (w := w) (base := base) F8 D__law_pick D__law_gap_of D__law_thing m_range m_min, k8, b8, .nil⟩
  have D_gap_bytes : Def l.prog w K mg base "gap_bytes" 1 spGapBytes := ⟨_, _, _, _, g9, ok_gap_bytes (P := l.prog) (w := w) (base := base) F9 c_MOST_GAP c_BASE, k9, b9, .nil⟩
  have HK : HeadsK K w G_HEADS := heads_mk lH kH1 kH2 kH3 kH4 kH5 nH1 nH2 nH3 nH4 nH5
  have c_HEADS : ∃ u, mg "HEADS" = some u ∧ L2.RelV (.ref G_HEADS) u := ⟨_, g_HEADS, rfl⟩
  have c_END : ∃ u, mg "END" = some u ∧ L2.RelV (.ref G_END) u := ⟨_, g_END, rfl⟩
  have hen : ∀ H, SqT K H G_END [.int 0, .int 255] := fun H => pr_K lE H
  have D_forms : Def l.prog w K mg base "forms" 1 spForms := ⟨_, _, _, _, g10, ok_forms (P := l.prog) (w := w) (base := base) F10 m_len m_ord m_list c_HEADS c_END_FORCE HK, k10, b10, .nil⟩
  have D_left_by : Def l.prog w K mg base "left_by" 1 spLeft := ⟨_, _, _, _, g11, ok_left_by (P := l.prog) (w := w) (base := base) F11 c_NO_HEAD c_HEADS HK, k11, b11, .nil⟩
  have D_head_cost : Def l.prog w K mg base "head_cost" 1 spHcost := ⟨_, _, _, _, g12, ok_head_cost (P := l.prog) (w := w) (base := base) F12, k12, b12, .nil⟩
  have D_gap_at : Def l.prog w K mg base "gap_at" 2 spGapAt := ⟨_, _, _, _, g13, ok_gap_at (P := l.prog) (w := w) (base := base) F13 D_gap_bytes, k13, b13, .nil⟩
  have D_heads_at : Def l.prog w K mg base "heads_at" 2 spHeadsAt := ⟨_, _, _, _, g14, ok_heads_at (P := l.prog) (w := w) (base := base) F14 D_forms D_left_by c_NO_HEAD, k14, b14, .nil⟩
  have D_form_cost : Def l.prog w K mg base "form_cost" 2 spFormCost := ⟨_, _, _, _, g15, ok_form_cost (P := l.prog) (w := w) (base := base) F15 D_head_cost D_left_by m_len, k15, b15, .nil⟩
  have D_best_form : Def l.prog w K mg base "best_form" 3 spBest := ⟨_, _, _, _, g16, ok_best_form (P := l.prog) (w := w) (base := base) F16 D_forms D_form_cost, k16, b16, .nil⟩
  have D_prices_at : Def l.prog w K mg base "prices_at" 4 spPricesAt := ⟨_, _, _, _, g17, ok_prices_at (P := l.prog) (w := w) (base := base) F17 D_gap_at D_heads_at D_best_form D_form_cost m_len, k17, b17, .nil⟩
  have D_prices : Def l.prog w K mg base "prices" 5 spPrices := ⟨_, _, _, _, g18, ok_prices (P := l.prog) (w := w) (base := base) F18 D_heads_at D_prices_at m_len m_range m_reversed m_dict c_END hen, k18, b18, .nil⟩
  have D_written : Def l.prog w K mg base "written" 6 spWritten := ⟨_, _, _, _, g19, ok_written (P := l.prog) (w := w) (base := base) F19 D_prices D_best_form D_gap_at D_head_cost D_left_by m_enumerate m_dict m_list c_NO_HEAD c_END hen, k19, b19, .nil⟩
  have D__law_left : Def l.prog w K mg base "_law_left" 1 spLeft := ⟨_, _, _, _, g20, ok_law_left (P := l.prog) (w := w) (base := base) F20, k20, b20, .nil⟩
  have D__law_forms : Def l.prog w K mg base "_law_forms" 1 spForms := ⟨_, _, _, _, g21, ok_law_forms (P := l.prog) (w := w) (base := base) F21 m_len m_ord m_list, k21, b21, .nil⟩
  have D__law_gap : Def l.prog w K mg base "_law_gap" 1 spGapBytes := ⟨_, _, _, _, g22, ok_law_gap (P := l.prog) (w := w) (base := base) F22 m_range, k22, b22, .nil⟩
  have D__law_gap_ahead : Def l.prog w K mg base "_law_gap_ahead" 1 spGapAhead := ⟨_, _, _, _, g23, ok_law_gap_ahead (P := l.prog) (w := w) (base := base) F23, k23, b23, .nil⟩
  exact ok_law (P := l.prog) (w := w) (base := base) F24 D__law_begin D__law_track D_prices D_written D__law_forms D__law_left D__law_gap D__law_gap_ahead m_range m_len m_dict m_int m_any
end Rt
open PySem PySem.W PyProof.Rows
set_option maxRecDepth 100000 in
set_option maxHeartbeats 0 in
theorem PySem.Challenge.cw_reedtapes_k12_whole_prices_tell_the_way_holds : PySem.Challenge.rw_reedtapes_k12_whole_prices_tell_the_way.Holds := by
  w_on; o_law; k_head; (case hw => w_witness2)
  k_fill
  refine Rt.walkT (l := PySem.Challenge.rw_reedtapes_k12_whole_prices_tell_the_way) (n := 63) (k := 7) (x := "_law_script") (CX := fun _ => L2.CX0) rfl (by decide) rfl ⟨rfl, by decide, by decide⟩ (fun w h Y => PySem.W.kIn_of Y) ?F (fun _ _ _ _ _ h => h)
  case F =>
    intro w mg fa h KX G hmg tabs
    refine' Rt.all_mk KX G hmg ?a1 ?l1 ?c1 ?k1 ?a2 ?l2 ?c2 ?k2 ?a3 ?l3 ?c3 ?k3 ?a4 ?l4 ?c4 ?k4 ?a5 ?l5 ?c5 ?k5 ?a6 ?l6 ?c6 ?k6 ?a7 ?l7 ?c7 ?k7 ?a8 ?l8 ?c8 ?k8 ?a9 ?l9 ?c9 ?k9 ?a10 ?l10 ?c10 ?k10 ?a11 ?l11 ?c11 ?k11 ?a12 ?l12 ?c12 ?k12 ?a13 ?l13 ?c13 ?k13 ?a14 ?l14 ?c14 ?k14 ?a15 ?l15 ?c15 ?k15 ?a16 ?l16 ?c16 ?k16 ?a17 ?l17 ?c17 ?k17 ?a18 ?l18 ?c18 ?k18 ?a19 ?l19 ?c19 ?k19 ?a20 ?l20 ?c20 ?k20 ?a21 ?l21 ?c21 ?k21 ?a22 ?l22 ?c22 ?k22 ?a23 ?l23 ?c23 ?k23 ?a24 ?l24 ?c24 ?k24 ?z_list ?z_len ?z_range ?z_int ?z_min ?z_ord ?z_dict ?z_reversed ?z_enumerate ?z_any ?g_MOST_GAP ?g_BASE ?g_NO_HEAD ?g_END_FORCE ?h_HEADS ?h_END ?lH ?kH1 ?nH1 ?kH2 ?nH2 ?kH3 ?nH3 ?kH4 ?nH4 ?kH5 ?nH5 ?lE
    (case a1 => k_is)
    (case l1 => k_is)
    (case c1 => k_is)
    (case k1 => k_is)
    (case a2 => k_is)
    (case l2 => k_is)
    (case c2 => k_is)
    (case k2 => k_is)
    (case a3 => k_is)
    (case l3 => k_is)
    (case c3 => k_is)
    (case k3 => k_is)
    (case a4 => k_is)
    (case l4 => k_is)
    (case c4 => k_is)
    (case k4 => k_is)
    (case a5 => k_is)
    (case l5 => k_is)
    (case c5 => k_is)
    (case k5 => k_is)
    (case a6 => k_is)
    (case l6 => k_is)
    (case c6 => k_is)
    (case k6 => k_is)
    (case a7 => k_is)
    (case l7 => k_is)
    (case c7 => k_is)
    (case k7 => k_is)
    (case a8 => k_is)
    (case l8 => k_is)
    (case c8 => k_is)
    (case k8 => k_is)
    (case a9 => k_is)
    (case l9 => k_is)
    (case c9 => k_is)
    (case k9 => k_is)
    (case a10 => k_is)
    (case l10 => k_is)
    (case c10 => k_is)
    (case k10 => k_is)
    (case a11 => k_is)
    (case l11 => k_is)
    (case c11 => k_is)
    (case k11 => k_is)
    (case a12 => k_is)
    (case l12 => k_is)
    (case c12 => k_is)
    (case k12 => k_is)
    (case a13 => k_is)
    (case l13 => k_is)
    (case c13 => k_is)
    (case k13 => k_is)
    (case a14 => k_is)
    (case l14 => k_is)
    (case c14 => k_is)
    (case k14 => k_is)
    (case a15 => k_is)
    (case l15 => k_is)
    (case c15 => k_is)
    (case k15 => k_is)
    (case a16 => k_is)
    (case l16 => k_is)
    (case c16 => k_is)
    (case k16 => k_is)
    (case a17 => k_is)
    (case l17 => k_is)
    (case c17 => k_is)
    (case k17 => k_is)
    (case a18 => k_is)
    (case l18 => k_is)
    (case c18 => k_is)
    (case k18 => k_is)
    (case a19 => k_is)
    (case l19 => k_is)
    (case c19 => k_is)
    (case k19 => k_is)
    (case a20 => k_is)
    (case l20 => k_is)
    (case c20 => k_is)
    (case k20 => k_is)
    (case a21 => k_is)
    (case l21 => k_is)
    (case c21 => k_is)
    (case k21 => k_is)
    (case a22 => k_is)
    (case l22 => k_is)
    (case c22 => k_is)
    (case k22 => k_is)
    (case a23 => k_is)
    (case l23 => k_is)
    (case c23 => k_is)
    (case k23 => k_is)
    (case a24 => k_is)
    (case l24 => k_is)
    (case c24 => k_is)
    (case k24 => k_is)
    (case z_list => k_is)
    (case z_len => k_is)
    (case z_range => k_is)
    (case z_int => k_is)
    (case z_min => k_is)
    (case z_ord => k_is)
    (case z_dict => k_is)
    (case z_reversed => k_is)
    (case z_enumerate => k_is)
    (case z_any => k_is)
    (case g_MOST_GAP => k_is)
    (case g_BASE => k_is)
    (case g_NO_HEAD => k_is)
    (case g_END_FORCE => k_is)
    (case h_HEADS => k_is)
    (case h_END => k_is)
    (case lH => k_is)
    (case kH1 => rfl)
    (case nH1 => k_is)
    (case kH2 => rfl)
    (case nH2 => k_is)
    (case kH3 => rfl)
    (case nH3 => k_is)
    (case kH4 => rfl)
    (case nH4 => k_is)
    (case kH5 => rfl)
    (case nH5 => k_is)
    (case lE => k_is)

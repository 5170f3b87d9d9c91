import PyProof.Rows.All
import Wide.All
import OpenK.AllK
import Wide.FinOn
import HandS.ForMost
import HandS.Codes
import HandS.Flow
import HandS.Style
import HandS.StrMore
import HandS.IsInst
import HandS.TupAny
import HandS.EndBits
import HandS.Exc
import HandS.ExcInit
import HandS.ExcField
import HandS.WordsExc
import HandS.ExcIs
import HandS.Set
import HandS.SetFor
import HandS.Strs
import HandS.Small
import HandS.Star
import HandS.AnyAll
import KE.KIsAll
import KE.KTryMore
import PySem.Challenge.RW_digitwise_k02_terms
set_option Elab.async false
set_option linter.all false
set_option maxRecDepth 100000
set_option maxHeartbeats 4000000
namespace Dw
open PySem PySem.Spec PyProof.Rows L2 SX

theorem hu64 {A : Around} {k : Nat} (hr : Room k A) : A.units + 64 < cLine := hr.units
section
variable {X : Cx} {k j : Nat} {x : Str} {sp : Sp} {dvs : List V} {p pos : Pos}
theorem pe_c0 (c : C8.Cal X.prog X.w X.K X.mg X.base k x sp dvs) (hr : Room j X.A) (hk : k ≤ j) (hg : Gl X x)
    (hdb : (x == ("__debug__" : Str)) = false := by decide) :
    PE X (.Call (.Name x p) [] [] pos) (tCall sp dvs C8.E0 tNil) := by
  obtain ⟨f, fd, ps, ds, F, hm, kp, b, d⟩ := c.ex
  exact pe_call0 F (hr.mono hk) hg hm kp b d C8.pass0 hdb
end
theorem same_upd {H : Hp} {p : Addr} {o : HO} (h : H p = none) : Same H (upd H p o) := fun b x e => by
  rw [upd_ne (ne_of_none e h)]
  exact e
/-- all but what stands at p is as it was -/
def But (p : Addr) (H H' : Hp) : Prop := ∀ b o, b ≠ p → H b = some o → H' b = some o
theorem But.refl (p : Addr) (H : Hp) : But p H H := fun _ _ _ h => h
theorem But.trans {p : Addr} {H H1 H2 : Hp} (a : But p H H1) (b : But p H1 H2) : But p H H2 := fun c o n h => b c o n (a c o n h)
theorem But.of {p : Addr} {H H' : Hp} (a : Same H H') : But p H H' := fun b o _ h => a b o h
theorem But.upd {p : Addr} {H : Hp} {o : HO} : But p H (upd H p o) := fun b _ n h => by
  rw [upd_ne n]
  exact h
theorem But.list {p a : Addr} {H H' : Hp} {K : PySem.W.Frag} {xs : List V} (e : But p H H') (n : a ≠ p) (h : SqL K H a xs) : SqL K H' a xs := by
  rcases h with (h | ⟨o, h⟩) | h
  · exact .inl (.inl (e _ _ n h))
  · exact .inl (.inr ⟨o, e _ _ n h⟩)
  · exact .inr h
/-- the pool of drawn numbers at p, over the copied script at q -/
def Pool (H : Hp) (p q : Addr) (ns : List Int) : Prop := p ≠ q ∧ H q = some (.lst (ns.map V.int)) ∧ ∃ a k : Int, H p = some (.lst [.int a, .ref q, .int k]) ∧ 0 ≤ a ∧ -1 ≤ k
theorem Pool.same {H H' : Hp} {p q : Addr} {ns : List Int} (h : Pool H p q ns) (e : Same H H') : Pool H' p q ns := by
  obtain ⟨n, hq, a, k, hp, h0, h1⟩ := h
  exact ⟨n, e _ _ hq, a, k, e _ _ hp, h0, h1⟩

example : True := by trivial
end Dw
namespace Dw
open PySem PySem.Spec PyProof.Rows L2 SX
section
variable {CX : CXT} {P : Program} {w : World} {K : PySem.W.Frag} {mg : Str → Option Value} {base : Heap} {N : List Str} {qual : Str} {scope : Scope} {f : Addr} {cd : Value} {A : Around} {outer : List Env} {s : Shared} {H : Hp} {E : XK}
theorem cxOf_K : (cxOf CX P w K mg base N qual scope f cd A outer s H E).K = K := rfl
theorem cxOf_w : (cxOf CX P w K mg base N qual scope f cd A outer s H E).w = w := rfl
theorem cxOf_prog : (cxOf CX P w K mg base N qual scope f cd A outer s H E).prog = P := rfl
end
end Dw
namespace Dw
open PySem PySem.Spec PyProof.Rows L2 SX
theorem at_ints {ns : List Int} {k : Int} (h0 : 0 ≤ k) (h1 : k < (ns.length : Int)) : atI (ns.map V.int) k = some (.int (ns.getD k.toNat 0)) := by
  obtain ⟨n, rfl⟩ : ∃ n : Nat, k = (n : Int) := ⟨k.toNat, by omega⟩
  have h2 : n < ns.length := by omega
  refine atI_nat ?_
  rw [List.getElem?_map, Int.toNat_natCast, List.getD_eq_getElem?_getD, List.getElem?_eq_getElem h2]
  rfl
end Dw
namespace Dw
open PySem PySem.Spec PyProof.Rows L2 SX
/-- a text times an int -/
theorem op_mul_str {X : Cx} : OpR X (binaryOp .Mult) (fun x y H Q => ∃ (z : Str) (k : Int), x = .str z ∧ y = .int k ∧ MulOk z k ∧ Q (.str (Txt.mul z k)) H) := by
  intro pins s σ H x y v u Q I rx ry h
  obtain ⟨z, k, rfl, rfl, hz, q⟩ := h
  obtain ⟨t, rfl⟩ := rx
  obtain ⟨t', rfl⟩ := ry
  exact SB.mul hz (fun t' tk => ⟨.str (Txt.mul z k), H, I.tok _, ⟨_, rfl⟩, q⟩)
def rMulS : R2 := fun x y H Q => ∃ (z : Str) (k : Int), x = .str z ∧ y = .int k ∧ MulOk z k ∧ Q (.str (Txt.mul z k)) H
theorem op_mulS {X : Cx} : OpR X (binaryOp .Mult) rMulS := op_mul_str
/-! loops and comprehensions, folded -/
def ForJ (J : It) (g : TG) (tb : TS) (D : Ends) (σ : L2.St) (H : Hp) : Prop := ∃ W : Nat → Nat → L2.St → Hp → Prop, (∃ m, W 0 m σ H) ∧ ∀ i m σ H, W i m σ H →
  (J.stop i H ∧ D.nx σ H) ∨ (J.go i H ∧ ∃ N : L2.St → Hp → Prop, (∀ σ' H', N σ' H' → ∃ m', m' < m ∧ W (i + 1) m' σ' H') ∧ ∀ x H', J.yld i H x H' → g x σ H' fun σ2 H2 => tb { D with nx := N, ct := N, bk := D.nx } σ2 H2)
theorem tFor_eq (wi : TI) (g : TG) (tb : TS) (D : Ends) (σ : L2.St) (H : Hp) : tFor wi g tb D σ H = wi σ H fun J H1 => ForJ J g tb D σ H1 := rfl
def LcJ (J : It) (g : TG) (tt : TT) (te : TE) (vs : List Nat) (D : Addr) (σ : L2.St) (H1 : Hp) (Qd : Hp → Prop) : Prop := ∃ W : Nat → Nat → Hp → Prop, (∃ m, W 0 m (upd H1 D (.lst []))) ∧ ∀ i m H, W i m H →
  (J.stop i H ∧ Qd H) ∨ (J.go i H ∧ ∃ Nx : Hp → Prop, (∀ H', Nx H' → ∃ m', m' < m ∧ W (i + 1) m' H') ∧ ∀ x H', J.yld i H x H' → g x (wipe σ vs) H' fun σ2 H2 => wipe σ2 vs = wipe σ vs ∧ tt σ2 H2 fun b H3 =>
    if b = true then te σ2 H3 fun y H4 => ∃ acc, H4 D = some (.lst acc) ∧ acc.length < sizeLine ∧ Nx (upd H4 D (.lst (acc ++ [y]))) else Nx H3)
theorem tLc_eq (wi : TI) (g : TG) (tt : TT) (te : TE) (vs : List Nat) (σ : L2.St) (H : Hp) (Q : VK) : tLc wi g tt te vs σ H Q = wi σ H fun J H1 => ∀ D, H1 D = none → LcJ J g tt te vs D σ H1 fun H2 => Q (.ref D) H2 := rfl
/-! texts as lists of codes -/
def cs (s : String) : List Nat := (Str.ofString s).cps.toList
theorem ofStr_S (s : String) : Str.ofString s = S (cs s) := (S_tl _).symm
theorem one_S (c : Nat) : (⟨#[c]⟩ : Str) = S [c] := rfl
theorem S_iff (a b : List Nat) : (S a = S b) = (a = b) := propext ⟨S_inj, fun e => by rw [e]⟩
theorem S_cps (a : List Nat) : (S a).cps.toList = a := rfl
theorem len_S (a : List Nat) : (S a).length = a.length := S_len a
theorem at_mem {α : Type} {xs : List α} {i : Int} (h0 : 0 ≤ i) (h1 : i < (xs.length : Int)) : ∃ v, atI xs i = some v ∧ v ∈ xs := by
  obtain ⟨n, rfl⟩ : ∃ n : Nat, i = (n : Int) := ⟨i.toNat, by omega⟩
  have h2 : n < xs.length := by omega
  exact ⟨xs[n], atI_nat (List.getElem?_eq_getElem h2), List.getElem_mem h2⟩
def LOW : List Nat := cs "abcdefghijklmnopqrstuvwxyz"
def UPP : List Nat := cs "ABCDEFGHIJKLMNOPQRSTUVWXYZ"
def DIG : List Nat := cs "0123456789"
def RESW : List String := ["all", "def", "pow", "some", "told"]
def RES : List (List Nat) := RESW.map cs
def SGNW : List String := ["<=>", "=>", "->", "<=", ">=", "!=", "=", "<", ">", "+", "-", "*", "~", "&", "|", "(", ")", "[", "]", "{", "}", ",", ":", ";"]
def SGN : List (List Nat) := SGNW.map cs
def vS (l : List Nat) : V := .str (S l)
/-- a good name, a good word -/
structure GName (l : List Nat) : Prop where
  hd : ∃ c r, l = c :: r ∧ c ∈ LOW
  all : ∀ c ∈ l, c ∈ LOW ++ DIG
  le : l.length ≤ 12
  nr : l ∉ RES
structure GWord (l : List Nat) : Prop where
  hd : ∃ c r, l = c :: r ∧ c ∈ UPP
  all : ∀ c ∈ l, c ∈ UPP ++ DIG
  le : l.length ≤ 12
def NMS : List String := ["x", "y", "z", "alls", "v0", "v1", "po", "defx"]
instance (l : List Nat) : Decidable (∃ c r, l = c :: r ∧ c ∈ LOW) := match l with
  | [] => isFalse (by rintro ⟨_, _, h, _⟩; cases h)
  | c :: r => if h : c ∈ LOW then isTrue ⟨c, r, rfl, h⟩ else isFalse (by rintro ⟨_, _, e, h'⟩; cases e; exact h h')
theorem nms_ok : ∀ s ∈ NMS, (∃ c r, cs s = c :: r ∧ c ∈ LOW) ∧ (∀ c ∈ cs s, c ∈ LOW ++ DIG) ∧ (cs s).length ≤ 12 := by decide +kernel
theorem low_len : LOW.length = 26 := by decide +kernel
theorem lowdig_len : (LOW ++ DIG).length = 36 := by decide +kernel
theorem upp_len : UPP.length = 26 := by decide +kernel
theorem uppdig_len : (UPP ++ DIG).length = 36 := by decide +kernel
theorem res_len : ∀ l ∈ RES, l.length ≤ 4 := by decide +kernel
theorem res0 : ∀ l ∈ RES, l ++ cs "0" ∉ RES := by decide +kernel
/-- a drawn name is made good -/
theorem gname_of {l : List Nat} (hd : ∃ c r, l = c :: r ∧ c ∈ LOW) (all : ∀ c ∈ l, c ∈ LOW ++ DIG) (le : l.length ≤ 12) : (l ∈ RES → GName (l ++ cs "0")) ∧ (l ∉ RES → GName l) := by
  refine ⟨fun h => ⟨?_, ?_, ?_, res0 l h⟩, fun h => ⟨hd, all, le, h⟩⟩
  · obtain ⟨c, r, rfl, hc⟩ := hd
    exact ⟨c, r ++ cs "0", rfl, hc⟩
  · intro c hc
    rcases List.mem_append.mp hc with h1 | h1
    · exact all c h1
    · have : ∀ c ∈ cs "0", c ∈ LOW ++ DIG := by decide +kernel
      exact this c h1
  · rw [List.length_append]
    have := res_len l h
    have : (cs "0").length = 1 := by decide +kernel
    omega
end Dw
namespace Dw
open PySem PySem.Spec PyProof.Rows L2 SX
theorem eqV_S (a b : List Nat) : eqV (.str (S a)) (.str (S b)) = decide (a = b) := by
  show (S a == S b) = _
  exact S_beq_eq
theorem inV_S (l : List Nat) : ∀ L : List (List Nat), inV (.str (S l)) (L.map vS) = decide (l ∈ L)
  | [] => by simp [inV]
  | a :: L => by
    have ih := inV_S l L
    unfold inV at ih ⊢
    rw [List.map_cons, List.any_cons, ih]
    show (eqV (.str (S a)) (.str (S l)) || _) = _
    rw [eqV_S]
    by_cases h : a = l
    · subst h; simp
    · have h' : ¬ l = a := fun e => h e.symm
      simp [h, h']
theorem flat_S : ∀ L : List (List Nat), (L.map vS).all flatV = true
  | [] => rfl
  | a :: L => by
    rw [List.map_cons, List.all_cons, flat_S L]
    rfl
theorem small {n : Nat} (h : n ≤ 10000) : n ≤ sizeLine := Nat.le_trans h (by decide)
theorem smallt {n : Nat} (h : n ≤ 10000) : n < sizeLine := Nat.lt_of_le_of_lt h (by decide)
end Dw
namespace Dw
open PySem PySem.Spec PyProof.Rows L2 SX
def SPS : List String := ["", " ", "\n", "  \n ", " ", ""]
theorem sps_ok : ∀ s ∈ SPS, (∀ c ∈ cs s, c = 32 ∨ c = 10) ∧ (cs s).length ≤ 4 := by decide +kernel
def pfx (s t : List Nat) : Bool := t.take s.length == s
def isAN (c : Nat) : Bool := Unicode.isAlnum c
/-- the two pieces need a space between them -/
def joins (a b : List Nat) : Bool := (isAN (a.getLast?.getD 0) && isAN (b.head?.getD 0)) || SGN.any fun s => decide (a.length < s.length) && pfx a s && pfx s (a ++ b)
end Dw
namespace Dw
open PySem PySem.Spec PyProof.Rows L2 SX
theorem pfx_iff {s t : List Nat} : pfx s t = true ↔ ∃ r, t = s ++ r := by
  unfold pfx
  rw [beq_iff_eq]
  constructor
  · intro h
    exact ⟨t.drop s.length, by have := List.take_append_drop s.length t; rw [h] at this; exact this.symm⟩
  · rintro ⟨r, rfl⟩
    simp
theorem pfx_le {s t : List Nat} (h : pfx s t = true) : s.length ≤ t.length := by
  obtain ⟨r, rfl⟩ := pfx_iff.mp h
  rw [List.length_append]; omega
theorem subAt_S (a b : List Nat) (i : Nat) : Builtin.Str.subAt (S a) (S b) i = pfx b (a.drop i) := by
  rw [StrLaws.subAt_eq]
  show ((a.drop i).take (S b).length == b) = _
  rw [S_len]
  rfl
theorem sw_S (a b : List Nat) : Txt.startswith (S a) (S b) = pfx b a := by
  unfold Txt.startswith
  rw [subAt_S, S_len, S_len, List.drop_zero]
  cases h : pfx b a
  · simp
  · have := pfx_le h
    simp [this]
theorem sw3_S (a b : List Nat) (i : Nat) (hi : i ≤ a.length) : Txt.startswith3 (S a) (S b) (i : Int) = pfx b (a.drop i) := by
  unfold Txt.startswith3
  have e : fromIndex (S a).length (i : Int) = i := by
    unfold fromIndex
    rw [if_neg (by omega)]
    omega
  rw [e, subAt_S, S_len, S_len]
  cases h : pfx b (a.drop i)
  · simp
  · have := pfx_le h
    rw [List.length_drop] at this
    have h2 : i + b.length ≤ a.length := by omega
    simp [h2]
theorem an_S (c : Nat) : Txt.isalnum (S [c]) = isAN c := by
  unfold Txt.isalnum isAN
  show (decide ((S [c]).length > 0) && (#[c] : Array Nat).all Unicode.isAlnum) = _
  simp [Str.length]
end Dw
namespace Dw
theorem sgn_len : ∀ s ∈ SGN, s.length ≤ 3 := by decide +kernel
end Dw
namespace Dw
open PySem PySem.Spec PyProof.Rows L2 SX
abbrev TRow := List Nat × List Nat
def flat (rows : List TRow) : List Nat := rows.flatMap fun x => x.1 ++ x.2
def places (n : Nat) : List TRow → List V
  | [] => []
  | x :: r => .int (n : Nat) :: places (n + x.1.length + x.2.length) r
theorem flat_snoc (rows : List TRow) (x : TRow) : flat (rows ++ [x]) = flat rows ++ x.1 ++ x.2 := by
  simp [flat]
theorem flat_cons (rows : List TRow) (x : TRow) : flat (x :: rows) = x.1 ++ (x.2 ++ flat rows) := by
  simp [flat]
theorem places_snoc : ∀ (n : Nat) (rows : List TRow) (x : TRow), places n (rows ++ [x]) = places n rows ++ [.int ((n + (flat rows).length : Nat) : Int)]
  | n, [], x => by simp [places, flat]
  | n, y :: r, x => by
    show V.int _ :: places (n + y.1.length + y.2.length) (r ++ [x]) = _
    rw [places_snoc]
    show _ = V.int _ :: (places (n + y.1.length + y.2.length) r ++ _)
    rw [flat_cons, List.length_append, List.length_append]
    rw [show n + y.1.length + y.2.length + (flat r).length = n + (y.1.length + (y.2.length + (flat r).length)) by omega]
theorem places_len : ∀ (n : Nat) (rows : List TRow), (places n rows).length = rows.length
  | _, [] => rfl
  | n, y :: r => by
    show (places _ r).length + 1 = r.length + 1
    rw [places_len]
def Blank (l : List Nat) : Prop := (∀ c ∈ l, c = 32 ∨ c = 10) ∧ l.length ≤ 4
/-- where two parts join, a space stands between them -/
def Sepd (rows : List TRow) : Prop := ∀ (k : Nat) (x y : TRow), rows[k]? = some x → rows[k + 1]? = some y → joins x.1 y.1 = true → x.2 ≠ []
theorem flat_len : ∀ (rows : List TRow), (∀ x ∈ rows, x.1.length ≤ 100 ∧ x.2.length ≤ 4) → (flat rows).length ≤ 104 * rows.length
  | [], _ => by simp [flat]
  | x :: r, h => by
    have ih := flat_len r fun y hy => h y (List.mem_cons_of_mem _ hy)
    have h1 := h x List.mem_cons_self
    rw [flat_cons, List.length_append, List.length_append, List.length_cons]
    omega
theorem snoc_of {l : List Nat} (h : l ≠ []) : ∃ (a' : List Nat) (x : Nat), l = a' ++ [x] := ⟨l.dropLast, l.getLast h, (List.dropLast_concat_getLast h).symm⟩
theorem cons_of {l : List Nat} (h : l ≠ []) : ∃ (y : Nat) (b' : List Nat), l = y :: b' := by
  cases l with
  | nil => exact absurd rfl h
  | cons y r => exact ⟨y, r, rfl⟩
theorem at_map {α : Type} {f : α → V} {L : List α} {i : Nat} {a : α} (h : L[i]? = some a) : atI (L.map f) (i : Int) = some (f a) := atI_nat (by rw [List.getElem?_map, h]; rfl)
end Dw
namespace Dw
open PySem PySem.Spec PyProof.Rows L2 SX
theorem Pool.ne {H : Hp} {p q t : Addr} {ns : List Int} (h : Pool H p q ns) (ht : H t = none) : t ≠ p := by
  obtain ⟨_, _, _, _, hp, _⟩ := h
  exact (ne_of_none hp ht).symm
theorem But.free {H H1 : Hp} {p q t : Addr} {ns : List Int} (hB : But p H H1) (hP : Pool H1 p q ns) (ht : H1 t = none) : H t = none := by
  cases e : H t with
  | none => rfl
  | some o =>
    have := hB t o (hP.ne ht) e
    rw [ht] at this
    cases this
end Dw
namespace Dw
open PySem PySem.Spec PyProof.Rows L2 SX
theorem tyL {K : PySem.W.Frag} {H : Hp} {a : Addr} {xs : List V} (h : H a = some (.lst xs)) : tyV K "list" (.ref a) H := .inl ⟨rfl, _, SqL.of h⟩
theorem tyV_str {K : PySem.W.Frag} {H : Hp} {z : Str} : tyV K "str" (.str z) H = True := propext ⟨fun _ => trivial, fun _ => rfl⟩
theorem But.new {p t : Addr} {H H1 : Hp} {o : HO} (hB : But p H H1) (ht : H t = none) : But p H (L2.upd H1 t o) := fun b u n h => by
  rw [upd_ne (ne_of_none h ht)]
  exact hB b u n h
theorem Pool.set {p q t : Addr} {H : Hp} {ns : List Int} {o : HO} (h : Pool H p q ns) (h1 : t ≠ p) (h2 : t ≠ q) : Pool (L2.upd H t o) p q ns := by
  obtain ⟨n, hq, a, k, hp, h0, hk⟩ := h
  exact ⟨n, by rw [upd_ne h2.symm]; exact hq, a, k, by rw [upd_ne h1.symm]; exact hp, h0, hk⟩
theorem Pool.neq {H : Hp} {p q t : Addr} {ns : List Int} (h : Pool H p q ns) (ht : H t = none) : t ≠ q := by
  obtain ⟨_, hq, _⟩ := h
  exact (ne_of_none hq ht).symm
end Dw
namespace Dw
open PySem PySem.Spec PyProof.Rows L2 SX
def num (n : Nat) : List Nat := cs (toString (n : Int))
/-- a piece of a text, the kind and the value of its token -/
inductive Piece : List Nat → List Nat → V → Prop
  | res {l : List Nat} (h : l ∈ RES) : Piece l (cs "reserved") (.str (S l))
  | name {l : List Nat} (h : GName l) : Piece l (cs "name") (.str (S l))
  | word {l : List Nat} (h : GWord l) : Piece l (cs "word") (.str (S l))
  | num (n : Nat) (h : n < 256) : Piece (num n) (cs "number") (.int (n : Int))
  | sign {l : List Nat} (h : l ∈ SGN) : Piece l (cs "sign") (.str (S l))
end Dw
namespace Dw
open PySem PySem.Spec PyProof.Rows L2 SX
theorem But.upd2 {p t : Addr} {H H1 : Hp} {o : HO} (hB : But p H H1) (ht : H1 t = none) : But p H (L2.upd H1 t o) := hB.trans (But.of (same_upd ht))
end Dw
namespace Dw
open PySem PySem.Spec PyProof.Rows L2 SX
/-! loops by a word, what follows a turn left open -/
theorem while_up {c : TT} {tb : TS} {D : Ends} {σ : L2.St} {H : Hp} (W : Nat → L2.St → Hp → Prop) (h0 : ∃ m, W m σ H)
    (hs : ∀ m σ H (N : L2.St → Hp → Prop), W m σ H → (∀ m' σ' H', m' < m → W m' σ' H' → N σ' H') → c σ H fun b H1 => if b = true then tb { D with nx := N, ct := N, bk := D.nx } σ H1 else D.nx σ H1)
    (mono : ∀ σ H Q Q', (∀ b H1, Q b H1 → Q' b H1) → c σ H Q → c σ H Q') : tWhile c tb D σ H := by
  refine ⟨W, h0, fun m σ H hw => ?_⟩
  refine mono σ H _ _ (fun b H1 q => ?_) (hs m σ H (fun σ' H' => ∃ m', m' < m ∧ W m' σ' H') hw (fun m' σ' H' h1 h2 => ⟨m', h1, h2⟩))
  cases b with
  | true => exact ⟨_, fun σ' H' h => h, q⟩
  | false => exact q
theorem for_listN {K : PySem.W.Frag} {a : Addr} {xs : List V} {g : TG} {tb : TS} {D : Ends} {σ : L2.St} {H : Hp} (Pv : Nat → L2.St → Hp → Prop) (h0 : Pv 0 σ H) (hl : ∀ i σ H, i ≤ xs.length → Pv i σ H → SqL K H a xs)
    (hs : ∀ i x σ H (N : L2.St → Hp → Prop), xs[i]? = some x → Pv i σ H → (∀ σ' H', Pv (i + 1) σ' H' → N σ' H') → g x σ H fun σ2 H2 => tb { D with nx := N, ct := N, bk := D.nx } σ2 H2) (hd : ∀ σ H, Pv xs.length σ H → D.nx σ H) :
    ForJ (Itl K a) g tb D σ H := for_list Pv h0 hl (fun i x σ H hx hp => hs i x σ H (Pv (i + 1)) hx hp (fun _ _ h => h)) hd
theorem for_tupN {K : PySem.W.Frag} {a : Addr} {xs : List V} {g : TG} {tb : TS} {D : Ends} {σ : L2.St} {H : Hp} (Pv : Nat → L2.St → Hp → Prop) (h0 : Pv 0 σ H) (hl : ∀ i σ H, i ≤ xs.length → Pv i σ H → SqT K H a xs)
    (hs : ∀ i x σ H (N : L2.St → Hp → Prop), xs[i]? = some x → Pv i σ H → (∀ σ' H', Pv (i + 1) σ' H' → N σ' H') → g x σ H fun σ2 H2 => tb { D with nx := N, ct := N, bk := D.nx } σ2 H2) (hd : ∀ σ H, Pv xs.length σ H → D.nx σ H) :
    ForJ (Itt K a) g tb D σ H := for_tup Pv h0 hl (fun i x σ H hx hp => hs i x σ H (Pv (i + 1)) hx hp (fun _ _ h => h)) hd
theorem for_rangeN {lo : Int} {n : Nat} {g : TG} {tb : TS} {D : Ends} {σ : L2.St} {H : Hp} (Pv : Nat → L2.St → Hp → Prop) (h0 : Pv 0 σ H)
    (hs : ∀ i σ H (N : L2.St → Hp → Prop), i < n → Pv i σ H → (∀ σ' H', Pv (i + 1) σ' H' → N σ' H') → g (.int (lo + i)) σ H fun σ2 H2 => tb { D with nx := N, ct := N, bk := D.nx } σ2 H2) (hd : ∀ σ H, Pv n σ H → D.nx σ H) :
    ForJ (Itr lo n) g tb D σ H := for_range Pv h0 (fun i σ H hx hp => hs i σ H (Pv (i + 1)) hx hp (fun _ _ h => h)) hd
theorem lc_listN {K : PySem.W.Frag} {a : Addr} {xs : List V} {g : TG} {tt : TT} {te : TE} {vs : List Nat} {σ : L2.St} {H1 : Hp} {D : Addr} {Qd : Hp → Prop} (Pv : Nat → Hp → Prop) (h0 : Pv 0 (upd H1 D (.lst []))) (hl : ∀ i H, i ≤ xs.length → Pv i H → SqL K H a xs)
    (hs : ∀ i x H (N : Hp → Prop), xs[i]? = some x → Pv i H → (∀ H', Pv (i + 1) H' → N H') → g x (wipe σ vs) H fun σ2 H2 => wipe σ2 vs = wipe σ vs ∧ tt σ2 H2 fun b H3 =>
      if b = true then te σ2 H3 fun y H4 => ∃ acc, H4 D = some (.lst acc) ∧ acc.length < sizeLine ∧ N (upd H4 D (.lst (acc ++ [y]))) else N H3) (hd : ∀ H, Pv xs.length H → Qd H) :
    LcJ (Itl K a) g tt te vs D σ H1 Qd := lc_list Pv h0 hl (fun i x H hx hp => hs i x H (Pv (i + 1)) hx hp (fun _ h => h)) hd
theorem lc_tupN {K : PySem.W.Frag} {a : Addr} {xs : List V} {g : TG} {tt : TT} {te : TE} {vs : List Nat} {σ : L2.St} {H1 : Hp} {D : Addr} {Qd : Hp → Prop} (Pv : Nat → Hp → Prop) (h0 : Pv 0 (upd H1 D (.lst []))) (hl : ∀ i H, i ≤ xs.length → Pv i H → SqT K H a xs)
    (hs : ∀ i x H (N : Hp → Prop), xs[i]? = some x → Pv i H → (∀ H', Pv (i + 1) H' → N H') → g x (wipe σ vs) H fun σ2 H2 => wipe σ2 vs = wipe σ vs ∧ tt σ2 H2 fun b H3 =>
      if b = true then te σ2 H3 fun y H4 => ∃ acc, H4 D = some (.lst acc) ∧ acc.length < sizeLine ∧ N (upd H4 D (.lst (acc ++ [y]))) else N H3) (hd : ∀ H, Pv xs.length H → Qd H) :
    LcJ (Itt K a) g tt te vs D σ H1 Qd := lc_tup Pv h0 hl (fun i x H hx hp => hs i x H (Pv (i + 1)) hx hp (fun _ h => h)) hd
theorem lc_rangeN {lo : Int} {n : Nat} {g : TG} {tt : TT} {te : TE} {vs : List Nat} {σ : L2.St} {H1 : Hp} {D : Addr} {Qd : Hp → Prop} (Pv : Nat → Hp → Prop) (h0 : Pv 0 (upd H1 D (.lst [])))
    (hs : ∀ i H (N : Hp → Prop), i < n → Pv i H → (∀ H', Pv (i + 1) H' → N H') → g (.int (lo + i)) (wipe σ vs) H fun σ2 H2 => wipe σ2 vs = wipe σ vs ∧ tt σ2 H2 fun b H3 =>
      if b = true then te σ2 H3 fun y H4 => ∃ acc, H4 D = some (.lst acc) ∧ acc.length < sizeLine ∧ N (upd H4 D (.lst (acc ++ [y]))) else N H3) (hd : ∀ H, Pv n H → Qd H) :
    LcJ (Itr lo n) g tt te vs D σ H1 Qd := lc_range Pv h0 (fun i H hx hp => hs i H (Pv (i + 1)) hx hp (fun _ h => h)) hd
theorem cut_by {t u : TS} {D : Ends} {σ : L2.St} {H : Hp} (M : L2.St → Hp → Prop) (h1 : ∀ N : L2.St → Hp → Prop, (∀ σ' H', M σ' H' → N σ' H') → t { D with nx := N } σ H) (h2 : ∀ σ' H', M σ' H' → u D σ' H') : C8.tCut t u D σ H :=
  ⟨M, h1 M (fun _ _ h => h), h2⟩
/-! signs at the head of what is left -/
def hdIn (ch : List Nat) : List Nat → Bool
  | [] => false
  | c :: _ => decide (c ∈ ch)
theorem run_split (ch : List Nat) : ∀ l : List Nat, ∃ a b, l = a ++ b ∧ (∀ c ∈ a, c ∈ ch) ∧ hdIn ch b = false
  | [] => ⟨[], [], rfl, (fun _ h => nomatch h), rfl⟩
  | c :: r => by
    by_cases h : c ∈ ch
    · obtain ⟨a, b, rfl, h1, h2⟩ := run_split ch r
      refine ⟨c :: a, b, rfl, fun d hd => ?_, h2⟩
      rcases List.mem_cons.mp hd with e | e
      · rw [e]; exact h
      · exact h1 d e
    · exact ⟨[], c :: r, rfl, (fun _ h => nomatch h), decide_eq_false h⟩
theorem at_app {pre : List Nat} {c : Nat} {r : List Nat} : atI (pre ++ c :: r) ((pre.length : Nat) : Int) = some c := by
  refine atI_nat ?_
  rw [List.getElem?_append_right (Nat.le_refl _), Nat.sub_self]
  rfl
theorem cut_mid (pre l rest : List Nat) : Txt.slice (S (pre ++ (l ++ rest))) (some ((pre.length : Nat) : Int)) (some ((pre.length + l.length : Nat) : Int)) = S l := by
  rw [← C8.cutS_slice]
  unfold cutS
  rw [HT.sIx_nat, HT.sIx_nat, len_S, S_cps]
  have e1 : min pre.length (pre ++ (l ++ rest)).length = pre.length := by
    rw [List.length_append]; omega
  have e2 : min (pre.length + l.length) (pre ++ (l ++ rest)).length = pre.length + l.length := by
    rw [List.length_append, List.length_append]; omega
  rw [e1, e2, List.drop_left, Nat.add_sub_cancel_left, List.take_left]
end Dw
namespace Dw
open PySem PySem.Spec PyProof.Rows L2 SX
def NxW (W : Nat → L2.St → Hp → Prop) (m : Nat) (tb : TS) (D : Ends) (σ : L2.St) (H1 : Hp) : Prop := ∃ N : L2.St → Hp → Prop, (∀ σ' H', N σ' H' → ∃ m', m' < m ∧ W m' σ' H') ∧ tb { D with nx := N, ct := N, bk := D.nx } σ H1
theorem nxw_of {W : Nat → L2.St → Hp → Prop} {m : Nat} {tb : TS} {D : Ends} {σ : L2.St} {H1 : Hp} (h : ∀ N : L2.St → Hp → Prop, (∀ m' σ' H', m' < m → W m' σ' H' → N σ' H') → tb { D with nx := N, ct := N, bk := D.nx } σ H1) : NxW W m tb D σ H1 :=
  ⟨_, fun _ _ h => h, h (fun σ' H' => ∃ m', m' < m ∧ W m' σ' H') fun m' σ' H' h1 h2 => ⟨m', h1, h2⟩⟩
theorem while_W {c : TT} {tb : TS} {D : Ends} {σ : L2.St} {H : Hp} (W : Nat → L2.St → Hp → Prop) (h0 : ∃ m, W m σ H)
    (hs : ∀ m σ H, W m σ H → c σ H fun b H1 => if b = true then NxW W m tb D σ H1 else D.nx σ H1) : tWhile c tb D σ H := ⟨W, h0, hs⟩
end Dw
namespace Dw
open PySem PySem.Spec PyProof.Rows L2 SX
/-- a run of these signs and figures, a sign first, of at most 12 -/
def run (ch l : List Nat) : Bool := decide (1 ≤ l.length) && decide (l.length ≤ 12) && hdIn ch l && l.all fun c => decide (c ∈ ch ++ DIG)
/-- a value that is no text -/
inductive NoStr (H : Hp) : V → Prop
  | non : NoStr H .non
  | int (i : Int) : NoStr H (.int i)
  | bl (b : Bool) : NoStr H (.bl b)
  | tup {a : Addr} {xs : List V} (h : H a = some (.tup xs)) : NoStr H (.ref a)
theorem kit_str {K : PySem.W.Frag} : PySem.W.kitOne K (.type "str") (.type "str") = some true := kit_ty (by decide +kernel)
theorem NoStr.ty {K : PySem.W.Frag} {H : Hp} {v : V} (h : NoStr H v) : ∃ t, TyX K H v t ∧ PySem.W.kitOne K t (.type "str") = some false := by
  cases h with
  | non => exact ⟨_, .base .non, kit_ty (by decide +kernel)⟩
  | int i => exact ⟨_, .base (.int i), kit_ty (by decide +kernel)⟩
  | bl b => exact ⟨_, .base (.bl b), kit_ty (by decide +kernel)⟩
  | tup h => exact ⟨_, .base (.tup h), kit_ty (by decide +kernel)⟩
theorem gname_iff {l : List Nat} : (run LOW l && !decide (l ∈ RES)) = true ↔ GName l := by
  unfold run
  constructor
  · intro h
    simp only [Bool.and_eq_true, decide_eq_true_eq, List.all_eq_true, Bool.not_eq_true', decide_eq_false_iff_not] at h
    obtain ⟨⟨⟨⟨h1, h2⟩, h3⟩, h4⟩, h5⟩ := h
    refine ⟨?_, h4, h2, h5⟩
    cases l with
    | nil => exact absurd h1 (by decide)
    | cons c r => exact ⟨c, r, rfl, of_decide_eq_true h3⟩
  · rintro ⟨⟨c, r, rfl, hc⟩, h2, h3, h4⟩
    simp only [Bool.and_eq_true, decide_eq_true_eq, List.all_eq_true, Bool.not_eq_true', decide_eq_false_iff_not]
    exact ⟨⟨⟨⟨by simp, h3⟩, decide_eq_true hc⟩, h2⟩, h4⟩
end Dw
namespace Dw
open PySem PySem.Spec PyProof.Rows L2 SX
structure After (l rest : List Nat) : Prop where
  an : ∀ x, l.getLast? = some x → isAN x = true → ∀ y r, rest = y :: r → isAN y = false
  sg : ∀ s ∈ SGN, l.length < s.length → pfx l s = true → pfx s (l ++ rest) = false
theorem an_ld : ∀ c ∈ LOW ++ DIG, isAN c = true := by decide +kernel
theorem an_ud : ∀ c ∈ UPP ++ DIG, isAN c = true := by decide +kernel
theorem After.hd {l rest ch : List Nat} (h : After l rest) (hne : l ≠ []) (al : ∀ c ∈ l, isAN c = true) (hch : ∀ c ∈ ch, isAN c = true) : hdIn ch rest = false := by
  cases rest with
  | nil => rfl
  | cons y r =>
    have h1 := h.an _ (List.getLast?_eq_some_getLast hne) (al _ (List.getLast_mem hne)) y r rfl
    refine decide_eq_false fun hy => ?_
    rw [hch y hy] at h1
    cases h1
theorem res_ok : ∀ l ∈ RES, (∃ c r, l = c :: r ∧ c ∈ LOW) ∧ (∀ c ∈ l, c ∈ LOW ++ DIG) ∧ l.length ≤ 12 := by decide +kernel
theorem sgn_ok : ∀ l ∈ SGN, l ≠ [] ∧ hdIn LOW l = false ∧ hdIn UPP l = false ∧ hdIn DIG l = false ∧ hdIn [32, 10] l = false := by decide +kernel
theorem low_ok : ∀ c ∈ LOW, c ≠ 32 ∧ c ≠ 10 := by decide +kernel
theorem upp_ok : ∀ c ∈ UPP, c ∉ LOW ∧ c ≠ 32 ∧ c ≠ 10 := by decide +kernel
theorem dig_ok : ∀ c ∈ DIG, c ∉ LOW ∧ c ∉ UPP ∧ c ≠ 32 ∧ c ≠ 10 := by decide +kernel
theorem num_ok : ∀ n : Nat, n < 256 → num n ≠ [] ∧ (∀ c ∈ num n, c ∈ DIG) ∧ (num n).length ≤ 3 ∧ ((num n).head? = some 48 → (num n).length = 1) ∧ (num n).all (fun c => decide (48 ≤ c) && decide (c ≤ 57)) = true ∧ NumText.digitsVal (num n) = n := by decide +kernel
/-- a sign stands ahead of the signs that it begins with -/
theorem sgn_first : ∀ (i j : Fin 24), i < j → pfx (SGN.getD i []) (SGN.getD j []) = false := by decide +kernel
theorem num_int {n : Nat} (h : n < 256) : intText? (S (num n)) = some (n : Int) := by
  obtain ⟨h1, h2, h3, h4, h5, h6⟩ := num_ok n h
  rw [int_S h5 h1 (by omega), h6]
end Dw
namespace Dw
open PySem PySem.Spec PyProof.Rows L2 SX
theorem sgn_len24 : SGN.length = 24 := by decide +kernel
theorem sgn_before {i j : Nat} {s l : List Nat} (h : i < j) (hi : SGN[i]? = some s) (hj : SGN[j]? = some l) : pfx s l = false := by
  have h1 : j < 24 := by
    have := (List.getElem?_eq_some_iff.mp hj).1
    rw [sgn_len24] at this
    exact this
  have := sgn_first ⟨i, by omega⟩ ⟨j, h1⟩ h
  rw [List.getD_eq_getElem?_getD, List.getD_eq_getElem?_getD] at this
  rw [show SGN[(⟨i, by omega⟩ : Fin 24).val]? = some s from hi, show SGN[(⟨j, h1⟩ : Fin 24).val]? = some l from hj] at this
  exact this
theorem pfx_short {s l r : List Nat} (h : pfx s (l ++ r) = true) (hl : s.length ≤ l.length) : pfx s l = true := by
  unfold pfx at h ⊢
  rw [List.take_append_of_le_length hl] at h
  exact h
theorem pfx_two {s l r : List Nat} (h : pfx s (l ++ r) = true) (hl : l.length ≤ s.length) : pfx l s = true := by
  unfold pfx at h ⊢
  rw [beq_iff_eq] at h ⊢
  rw [← h, List.take_take, Nat.min_eq_left hl, List.take_left]
end Dw
namespace Dw
open PySem PySem.Spec PyProof.Rows L2 SX
/-- a piece, the space behind it, its token's kind and value -/
structure Itm where
  l : List Nat
  sp : List Nat
  k : List Nat
  v : V
def irow (x : Itm) : TRow := (x.l, x.sp)
abbrev iflat (r : List Itm) : List Nat := flat (r.map irow)
def Goods : List Itm → Prop
  | [] => True
  | x :: r => Piece x.l x.k x.v ∧ Blank x.sp ∧ After x.l (x.sp ++ iflat r) ∧ Goods r
theorem iflat_cons (x : Itm) (r : List Itm) : iflat (x :: r) = x.l ++ (x.sp ++ iflat r) := flat_cons _ _
/-- the tokens of these items stand at these places -/
def Toks (H : Hp) : Nat → List Itm → List Addr → Prop
  | _, [], [] => True
  | n, x :: r, a :: as => H a = some (.tup [.str (S x.k), x.v, .int (n : Nat)]) ∧ Toks H (n + x.l.length + x.sp.length) r as
  | _, _, _ => False
theorem Toks.same {H H' : Hp} (e : Same H H') : ∀ {n : Nat} {r : List Itm} {as : List Addr}, Toks H n r as → Toks H' n r as
  | _, [], [], _ => trivial
  | _, x :: r, a :: as, h => ⟨e _ _ h.1, Toks.same e h.2⟩
  | _, [], _ :: _, h => h.elim
  | _, _ :: _, [], h => h.elim
theorem Toks.but {p : Addr} {H H' : Hp} (e : But p H H') (hp : ∀ xs, H p ≠ some (.tup xs)) : ∀ {n : Nat} {r : List Itm} {as : List Addr}, Toks H n r as → Toks H' n r as
  | _, [], [], _ => trivial
  | _, x :: r, a :: as, h => ⟨e _ _ (fun q => hp _ (q ▸ h.1)) h.1, Toks.but e hp h.2⟩
  | _, [], _ :: _, h => h.elim
  | _, _ :: _, [], h => h.elim
theorem Toks.len {H : Hp} : ∀ {n : Nat} {r : List Itm} {as : List Addr}, Toks H n r as → as.length = r.length
  | _, [], [], _ => rfl
  | _, x :: r, a :: as, h => congrArg (· + 1) (Toks.len h.2)
  | _, [], _ :: _, h => h.elim
  | _, _ :: _, [], h => h.elim
theorem Toks.snoc {H : Hp} {x : Itm} {a : Addr} : ∀ {n : Nat} {r : List Itm} {as : List Addr}, Toks H n r as → H a = some (.tup [.str (S x.k), x.v, .int ((n + (iflat r).length : Nat) : Int)]) → Toks H n (r ++ [x]) (as ++ [a])
  | _, [], [], _, h => ⟨h, trivial⟩
  | n, y :: r, b :: as, h, h2 => ⟨h.1, Toks.snoc h.2 (by
      rw [iflat_cons, List.length_append, List.length_append] at h2
      rw [show n + y.l.length + y.sp.length + (iflat r).length = n + (y.l.length + (y.sp.length + (iflat r).length)) by omega]
      exact h2)⟩
  | _, [], _ :: _, h, _ => h.elim
  | _, _ :: _, [], h, _ => h.elim
theorem Goods.append : ∀ {a b : List Itm}, Goods (a ++ b) → Goods b
  | [], _, h => h
  | _ :: a, _, h => Goods.append (a := a) h.2.2.2
theorem piece_hd {l k : List Nat} {v : V} (h : Piece l k v) : ∃ c r, l = c :: r ∧ c ≠ 32 ∧ c ≠ 10 := by
  cases h with
  | res h =>
    obtain ⟨⟨c, r, e, hc⟩, _⟩ := res_ok l h
    exact ⟨c, r, e, low_ok c hc⟩
  | name h =>
    obtain ⟨c, r, e, hc⟩ := h.hd
    exact ⟨c, r, e, low_ok c hc⟩
  | word h =>
    obtain ⟨c, r, e, hc⟩ := h.hd
    exact ⟨c, r, e, (upp_ok c hc).2⟩
  | num n h =>
    obtain ⟨n1, n2, _⟩ := num_ok n h
    obtain ⟨c, r, e⟩ := cons_of n1
    exact ⟨c, r, e, (dig_ok c (n2 c (by rw [e]; exact List.mem_cons_self))).2.2⟩
  | sign h =>
    obtain ⟨n1, _, _, _, n5⟩ := sgn_ok l h
    obtain ⟨c, r, e⟩ := cons_of n1
    rw [e] at n5
    have : c ∉ [32, 10] := of_decide_eq_false n5
    simp at this
    exact ⟨c, r, e, this⟩
theorem piece_len {l k : List Nat} {v : V} (h : Piece l k v) : l.length ≤ 12 := by
  cases h with
  | res h => exact (res_ok l h).2.2
  | name h => exact h.le
  | word h => exact h.le
  | num n h => have := (num_ok n h).2.2.1; omega
  | sign h => have := sgn_len l h; omega
end Dw
namespace Dw
open PySem PySem.Spec PyProof.Rows L2 SX
theorem Same.new {H H1 : Hp} {t : Addr} {o : HO} (e : Same H H1) (ht : H t = none) : Same H (L2.upd H1 t o) := fun b u h => by
  rw [upd_ne (ne_of_none h ht)]
  exact e b u h
end Dw
namespace Dw
open PySem PySem.Spec PyProof.Rows L2 SX
/-! the tokens as data -/
inductive TV : V → PyData → Prop
  | str (z : Str) : TV (.str z) (.str z)
  | int (i : Int) : TV (.int i) (.int i)
def vD : V → PyData
  | .str z => .str z
  | .int i => .int i
  | _ => .none
theorem piece_vD {l k : List Nat} {v : V} (h : Piece l k v) : TV v (vD v) := by
  cases h <;> constructor
def tokD (n : Nat) (x : Itm) : PyData := .tuple [.str (S x.k), vD x.v, .int (n : Nat)]
def toksD : Nat → List Itm → List PyData
  | _, [] => []
  | n, x :: r => tokD n x :: toksD (n + x.l.length + x.sp.length) r
theorem vD_depth (v : V) : (vD v).depth = 0 := by
  cases v <;> simp [vD, PyData.depth]
theorem ok_S {l : List Nat} (h : ∀ c ∈ l, c < 128) : PyData.strOk (S l) = true := by
  unfold PyData.strOk
  rw [← Array.all_toList]
  exact List.all_eq_true.mpr fun c hc => decide_eq_true (Nat.lt_trans (h c hc) (by decide))
theorem ld_128 : ∀ c ∈ LOW ++ DIG, c < 128 := by decide +kernel
theorem ud_128 : ∀ c ∈ UPP ++ DIG, c < 128 := by decide +kernel
theorem sgn_128 : ∀ s ∈ SGN, ∀ c ∈ s, c < 128 := by decide +kernel
theorem kinds_128 : ∀ s ∈ (["reserved", "name", "word", "number", "sign"] : List String), ∀ c ∈ cs s, c < 128 := by decide +kernel
structure LayI (x : Itm) : Prop where
  k : PyData.strOk (S x.k) = true
  v : (vD x.v).canLay0 = true
theorem piece_lay {l k : List Nat} {v : V} (h : Piece l k v) : PyData.strOk (S k) = true ∧ (vD v).canLay0 = true := by
  cases h with
  | res h => exact ⟨ok_S (kinds_128 "reserved" (by simp)), by simp only [vD, PyData.canLay0]; exact ok_S fun c hc => ld_128 c ((res_ok l h).2.1 c hc)⟩
  | name h => exact ⟨ok_S (kinds_128 "name" (by simp)), by simp only [vD, PyData.canLay0]; exact ok_S fun c hc => ld_128 c (h.all c hc)⟩
  | word h => exact ⟨ok_S (kinds_128 "word" (by simp)), by simp only [vD, PyData.canLay0]; exact ok_S fun c hc => ud_128 c (h.all c hc)⟩
  | num n h => exact ⟨ok_S (kinds_128 "number" (by simp)), by simp only [vD, PyData.canLay0]⟩
  | sign h => exact ⟨ok_S (kinds_128 "sign" (by simp)), by simp only [vD, PyData.canLay0]; exact ok_S fun c hc => sgn_128 l h c hc⟩
theorem toksD_lay : ∀ (n : Nat) (r : List Itm), (∀ x ∈ r, LayI x) → PyData.canLayAll0 (toksD n r) = true
  | _, [], _ => by simp [toksD, PyData.canLayAll0]
  | n, x :: r, h => by
    have h1 := h x List.mem_cons_self
    simp [toksD, tokD, PyData.canLayAll0, PyData.canLay0, h1.k, h1.v, toksD_lay _ r fun y hy => h y (List.mem_cons_of_mem _ hy)]
theorem toksD_depth : ∀ (n : Nat) (r : List Itm), PyData.depthAll (toksD n r) ≤ 1
  | _, [] => by simp [toksD, PyData.depthAll]
  | n, x :: r => by
    have h1 := toksD_depth (n + x.l.length + x.sp.length) r
    simp only [toksD, tokD, PyData.depthAll, PyData.depth, vD_depth x.v]
    omega
theorem toksD_shaped (n : Nat) (r : List Itm) (h : ∀ x ∈ r, LayI x) : SeqAt.shaped (.list (toksD n r)) = true := by
  have h1 := toksD_depth n r
  have h2 : PyData.depth (.list (toksD n r)) ≤ 64 := by
    simp only [PyData.depth]
    omega
  show (PyData.canLay0 (.list (toksD n r)) && decide (PyData.depth (.list (toksD n r)) ≤ 64)) = true
  rw [Bool.and_eq_true]
  exact ⟨by simp only [PyData.canLay0]; exact toksD_lay n r h, decide_eq_true h2⟩
theorem shaped_refl {d : PyData} (h : SeqAt.shaped d = true) : PyData.eqv d d = true := SeqAt.eqv_refl d (SeqAt.canLay_of_shaped h)
theorem toks_dp {K : PySem.W.Frag} {H : Hp} : ∀ {n : Nat} {r : List Itm} {as : List Addr}, (∀ x ∈ r, TV x.v (vD x.v)) → Toks H n r as → DpAll K H (as.map V.ref) (toksD n r)
  | _, [], [], _, _ => .nil
  | n, x :: r, a :: as, hv, h => by
    refine .cons (.tup (SqT.of h.1) (.cons (.str _) (.cons ?_ (.cons (.int _) .nil)))) (toks_dp (fun y hy => hv y (List.mem_cons_of_mem _ hy)) h.2)
    have := hv x List.mem_cons_self
    generalize vD x.v = d at this
    cases hx : x.v <;> rw [hx] at this <;> cases this
    · exact .int _
    · exact .str _
  | _, [], _ :: _, _, h => h.elim
  | _, _ :: _, [], _, h => h.elim
theorem strs_lay : ∀ L : List (List Nat), (∀ l ∈ L, ∀ c ∈ l, c < 128) → PyData.canLayAll0 (L.map fun l => .str (S l)) = true
  | [], _ => by simp [PyData.canLayAll0]
  | l :: L, h => by simp [PyData.canLayAll0, PyData.canLay0, ok_S (h l List.mem_cons_self), strs_lay L fun m hm => h m (List.mem_cons_of_mem _ hm)]
theorem strs_depth : ∀ L : List (List Nat), PyData.depthAll (L.map fun l => .str (S l)) = 0
  | [] => by simp [PyData.depthAll]
  | l :: L => by simp [PyData.depthAll, PyData.depth, strs_depth L]
theorem strs_shaped (L : List (List Nat)) (h : ∀ l ∈ L, ∀ c ∈ l, c < 128) : SeqAt.shaped (.list (L.map fun l => .str (S l))) = true := by
  simp [SeqAt.shaped, PyData.canLay0, PyData.depth, strs_lay L h, strs_depth]
theorem res_128 : ∀ s ∈ RES, ∀ c ∈ s, c < 128 := by decide +kernel
theorem strs_dp {K : PySem.W.Frag} {H : Hp} : ∀ L : List (List Nat), DpAll K H (L.map vS) (L.map fun l => .str (S l))
  | [] => .nil
  | _ :: L => .cons (.str _) (strs_dp L)
/-! pieces as they stand -/
structure Pc where
  r : Addr
  t : Addr
  l : List Nat
  k : List Nat
  v : V
def PcsAt (H : Hp) (ps : List Pc) : Prop := ∀ x ∈ ps, Piece x.l x.k x.v ∧ H x.r = some (.lst [.str (S x.l), .ref x.t]) ∧ H x.t = some (.tup [.str (S x.k), x.v])
theorem PcsAt.same {H H' : Hp} {ps : List Pc} (h : PcsAt H ps) (e : Same H H') : PcsAt H' ps := fun x hx => ⟨(h x hx).1, e _ _ (h x hx).2.1, e _ _ (h x hx).2.2⟩
/-- at p stands none of the pieces' objects -/
theorem PcsAt.but {H H' : Hp} {p : Addr} {ps : List Pc} (h : PcsAt H ps) (e : But p H H') (h1 : ∀ l t, H p ≠ some (.lst [.str l, .ref t])) (h2 : ∀ xs, H p ≠ some (.tup xs)) : PcsAt H' ps := fun x hx =>
  ⟨(h x hx).1, e _ _ (fun q => h1 _ _ (q ▸ (h x hx).2.1)) (h x hx).2.1, e _ _ (fun q => h2 _ (q ▸ (h x hx).2.2)) (h x hx).2.2⟩
theorem PcsAt.pool {H H' : Hp} {p q : Addr} {ns : List Int} {ps : List Pc} (h : PcsAt H ps) (hP : Pool H p q ns) (e : But p H H') : PcsAt H' ps := by
  obtain ⟨_, _, a, k, hp, _⟩ := hP
  refine h.but e (fun l t e2 => ?_) (fun xs e2 => ?_)
  · rw [hp] at e2
    cases e2
  · rw [hp] at e2
    cases e2
theorem Toks.pool {H H' : Hp} {p q : Addr} {ns : List Int} {n : Nat} {r : List Itm} {as : List Addr} (h : Toks H n r as) (hP : Pool H p q ns) (e : But p H H') : Toks H' n r as := by
  obtain ⟨_, _, a, k, hp, _⟩ := hP
  refine h.but e (fun xs e2 => ?_)
  rw [hp] at e2
  cases e2
/-! what stands behind a piece -/
def mkI : List Pc → List TRow → List Itm
  | x :: ps, y :: rs => ⟨x.l, y.2, x.k, x.v⟩ :: mkI ps rs
  | _, _ => []
theorem mkI_rows : ∀ (ps : List Pc) (rows : List TRow), rows.map (·.1) = ps.map (·.l) → (mkI ps rows).map irow = rows
  | [], [], _ => rfl
  | x :: ps, y :: rs, h => by
    rw [List.map_cons, List.map_cons] at h
    obtain ⟨h1, h2⟩ := List.cons.inj h
    show irow _ :: (mkI ps rs).map irow = y :: rs
    rw [mkI_rows ps rs h2]
    show ((x.l, y.2) : TRow) :: rs = y :: rs
    rw [← h1]
  | [], _ :: _, h => by cases h
  | _ :: _, [], h => by cases h
theorem mkI_len : ∀ (ps : List Pc) (rows : List TRow), rows.map (·.1) = ps.map (·.l) → (mkI ps rows).length = ps.length
  | [], [], _ => rfl
  | x :: ps, y :: rs, h => by
    rw [List.map_cons, List.map_cons] at h
    exact congrArg (· + 1) (mkI_len ps rs (List.cons.inj h).2)
  | [], _ :: _, h => by cases h
  | _ :: _, [], h => by cases h
theorem mkI_get : ∀ (ps : List Pc) (rows : List TRow) (i : Nat) (x : Pc) (y : TRow), ps[i]? = some x → rows[i]? = some y → (mkI ps rows)[i]? = some ⟨x.l, y.2, x.k, x.v⟩
  | [], _, _, _, _, h, _ => by simp at h
  | _ :: _, [], _, _, _, _, h => by simp at h
  | a :: ps, b :: rs, 0, x, y, h1, h2 => by
    obtain rfl := Option.some.inj h1
    obtain rfl := Option.some.inj h2
    rfl
  | a :: ps, b :: rs, i + 1, x, y, h1, h2 => mkI_get ps rs i x y h1 h2
theorem an_sp : isAN 32 = false ∧ isAN 10 = false := by decide +kernel
theorem sgn_nosp : ∀ s ∈ SGN, ∀ c ∈ s, c ≠ 32 ∧ c ≠ 10 := by decide +kernel
theorem sgn_take : ∀ s ∈ SGN, s.length = 3 → s.take 2 ∈ SGN := by decide +kernel
theorem piece_ne {l k : List Nat} {v : V} (h : Piece l k v) : l ≠ [] := by
  obtain ⟨c, r, e, _⟩ := piece_hd h
  rw [e]
  exact List.cons_ne_nil _ _
theorem joins_no {a b : List Nat} (h : joins a b = false) : (isAN (a.getLast?.getD 0) && isAN (b.head?.getD 0)) = false ∧ ∀ s ∈ SGN, (decide (a.length < s.length) && pfx a s && pfx s (a ++ b)) = false := by
  unfold joins at h
  rw [Bool.or_eq_false_iff, List.any_eq_false] at h
  exact ⟨h.1, fun s hs => Bool.eq_false_iff.mpr (h.2 s hs)⟩
theorem after_of {l sp rest : List Nat} (hb : ∀ c ∈ sp, c = 32 ∨ c = 10) (hr : sp = [] → rest ≠ [] → ∃ b tl, rest = b ++ tl ∧ b ≠ [] ∧ l ≠ [] ∧ joins l b = false) : After l (sp ++ rest) := by
  constructor
  · intro x hx hax y r hy
    cases sp with
    | cons c sp' =>
      obtain rfl : c = y := (List.cons.inj hy).1
      rcases hb c List.mem_cons_self with e | e
      · rw [e]; exact an_sp.1
      · rw [e]; exact an_sp.2
    | nil =>
      rw [List.nil_append] at hy
      obtain ⟨b, tl, e, hbn, _, hj⟩ := hr rfl (by rw [hy]; exact List.cons_ne_nil _ _)
      obtain ⟨c, b', rfl⟩ := cons_of hbn
      rw [e] at hy
      obtain rfl : c = y := (List.cons.inj hy).1
      have h1 := (joins_no hj).1
      rw [hx] at h1
      simpa [hax] using h1
  · intro s hs hlt hp
    cases hc : pfx s (l ++ (sp ++ rest)) with
    | false => rfl
    | true =>
      exfalso
      have hs3 := sgn_len s hs
      obtain ⟨u, hu⟩ := pfx_iff.mp hp
      have hune : u ≠ [] := fun e => by rw [hu, e, List.append_nil] at hlt; exact Nat.lt_irrefl _ hlt
      obtain ⟨w, hw⟩ := pfx_iff.mp hc
      rw [hu, List.append_assoc] at hw
      have hw2 := List.append_cancel_left hw
      obtain ⟨d, u', rfl⟩ := cons_of hune
      cases sp with
      | cons c sp' =>
        have e : c = d := (List.cons.inj hw2).1
        have h1 := sgn_nosp s hs d (by rw [hu]; simp)
        rcases hb c List.mem_cons_self with e2 | e2
        · exact h1.1 (by rw [← e, e2])
        · exact h1.2 (by rw [← e, e2])
      | nil =>
        rw [List.nil_append] at hw2 hc
        obtain ⟨b, tl, e, hbn, hln, hj⟩ := hr rfl (by rw [hw2]; exact List.cons_ne_nil _ _)
        have hno := (joins_no hj).2
        by_cases hle : s.length ≤ (l ++ b).length
        · have h3 := hno s hs
          rw [decide_eq_true hlt, hp] at h3
          rw [e, ← List.append_assoc] at hc
          rw [pfx_short hc hle] at h3
          cases h3
        · have l1 : 1 ≤ l.length := List.length_pos_iff.mpr hln
          have b1 : 1 ≤ b.length := List.length_pos_iff.mpr hbn
          rw [List.length_append] at hle
          have hs3' : s.length = 3 := by omega
          have hll : l.length = 1 := by omega
          have hbb : b.length = 1 := by omega
          have ht := sgn_take s hs hs3'
          have et : s.take 2 = l ++ b := by
            rw [e, ← List.append_assoc] at hc
            obtain ⟨w2, hw3⟩ := pfx_iff.mp hc
            have : (l ++ b ++ tl).take 2 = l ++ b := by
              rw [List.take_append_of_le_length (by rw [List.length_append]; omega), List.take_of_length_le (by rw [List.length_append]; omega)]
            rw [← this, hw3, List.take_append_of_le_length (by omega)]
          have h3 := hno _ ht
          rw [et] at h3
          have e1 : decide (l.length < (l ++ b).length) = true := decide_eq_true (by rw [List.length_append]; omega)
          have e2 : pfx l (l ++ b) = true := pfx_iff.mpr ⟨b, rfl⟩
          have e3 : pfx (l ++ b) (l ++ b) = true := pfx_iff.mpr ⟨[], by simp⟩
          rw [e1, e2, e3] at h3
          cases h3
theorem goods_of : ∀ (ps : List Pc) (rows : List TRow), rows.map (·.1) = ps.map (·.l) → (∀ x ∈ rows, Blank x.2) → Sepd rows → (∀ x ∈ ps, Piece x.l x.k x.v) → Goods (mkI ps rows)
  | [], [], _, _, _, _ => trivial
  | x :: ps, y :: rs, h, hb, hs, hp => by
    have h0 := h
    rw [List.map_cons, List.map_cons] at h
    obtain ⟨h1, h2⟩ := List.cons.inj h
    refine ⟨hp x List.mem_cons_self, hb y List.mem_cons_self, ?_, goods_of ps rs h2 (fun z hz => hb z (List.mem_cons_of_mem _ hz)) (fun k a b ha hb' => hs (k + 1) a b ha hb') (fun z hz => hp z (List.mem_cons_of_mem _ hz))⟩
    show After x.l (y.2 ++ flat ((mkI ps rs).map irow))
    rw [mkI_rows ps rs h2]
    refine after_of (hb y List.mem_cons_self).1 (fun hsp hne => ?_)
    cases rs with
    | nil => exact absurd rfl hne
    | cons z rs' =>
      cases ps with
      | nil => cases h2
      | cons w ps' =>
        have hw : z.1 = w.l := (List.cons.inj h2).1
        refine ⟨z.1, z.2 ++ flat rs', flat_cons _ _, by rw [hw]; exact piece_ne (hp w (by simp)), piece_ne (hp x (by simp)), ?_⟩
        cases hj : joins x.l z.1 with
        | false => rfl
        | true => exact absurd hsp (hs 0 y z rfl rfl (by rw [h1]; exact hj))
  | [], _ :: _, h, _, _, _ => by cases h
  | _ :: _, [], h, _, _, _ => by cases h
theorem places_get : ∀ (n : Nat) (rows : List TRow) (i : Nat), i < rows.length → (places n rows)[i]? = some (.int ((n + (flat (rows.take i)).length : Nat) : Int))
  | n, y :: r, 0, _ => by simp [places, flat]
  | n, y :: r, i + 1, h => by
    show (places (n + y.1.length + y.2.length) r)[i]? = _
    rw [places_get _ r i (Nat.lt_of_succ_lt_succ h), List.take_succ_cons, flat_cons, List.length_append, List.length_append]
    rw [show n + y.1.length + y.2.length + (flat (r.take i)).length = n + (y.1.length + (y.2.length + (flat (r.take i)).length)) by omega]
theorem goods_mem : ∀ {is : List Itm}, Goods is → ∀ x ∈ is, Piece x.l x.k x.v
  | [], _, _, h => nomatch h
  | y :: r, g, x, h => by
    rcases List.mem_cons.mp h with e | e
    · rw [e]; exact g.1
    · exact goods_mem g.2.2.2 x e
end Dw
namespace Dw
open PySem PySem.Spec PyProof.Rows L2 SX
/-! rules that name the written part K itself (for a comprehension's block) -/
section
variable {X : Cx} (K : PySem.W.Frag)
theorem ixL (h : X.K = K := by rfl) : IxR X (rIxL K) := h ▸ ix_list
theorem ixT (h : X.K = K := by rfl) : IxR X (rIxT K) := h ▸ ix_tup
def rLen (K : PySem.W.Frag) : List V → Hp → VK → Prop := fun xs H Q => ∃ p ys, xs = [.ref p] ∧ (SqL K H p ys ∨ SqT K H p ys) ∧ Q (.int ys.length) H
theorem lenS (h : X.K = K := by rfl) : CallR X (.builtin "len") (rLen K) := h ▸ call_len_seq
theorem inQ (h : X.K = K := by rfl) : OpR X (compareOp .In) (rIn K false) := h ▸ op_in_seq
theorem notInQ (h : X.K = K := by rfl) : OpR X (compareOp .NotIn) (rIn K true) := h ▸ op_notIn_seq
theorem catA (h : X.K = K := by rfl) : OpR X (binaryOp .Add) (rCatA K) := h ▸ op_catA
theorem eqDK (hu : X.A.units + 64 < cLine) (h : X.K = K := by rfl) : OpR X (compareOp .Eq) (rEqD K) := h ▸ op_eqD hu
theorem neDK (hu : X.A.units + 64 < cLine) (h : X.K = K := by rfl) : OpR X (compareOp .NotEq) (rNeD K) := h ▸ op_neD hu
def rListOf (K : PySem.W.Frag) : List V → Hp → VK → Prop := fun xs H Q => ∃ p ys, xs = [.ref p] ∧ (SqL K H p ys ∨ SqT K H p ys) ∧ ∀ l, H l = none → Q (.ref l) (upd H l (.lst ys))
theorem listOf (h : X.K = K := by rfl) : CallR X (.type "list") (rListOf K) := h ▸ call_list_of
def rTupOf (K : PySem.W.Frag) : List V → Hp → VK → Prop := fun xs H Q => ∃ p ys, xs = [.ref p] ∧ ((SqL K H p ys ∧ ∀ l, H l = none → Q (.ref l) (upd H l (.tup ys))) ∨ (SqT K H p ys ∧ Q (.ref p) H))
theorem tupOf (h : X.K = K := by rfl) : CallR X (.type "tuple") (rTupOf K) := h ▸ call_tuple_of
theorem isiK (h : X.K = K := by rfl) : CallR X (.builtin "isinstance") (rIsi K) := h ▸ call_isi
end
end Dw
namespace Dw
open PySem PySem.Spec PyProof.Rows L2 SX
theorem isi_of {K : PySem.W.Frag} {H : Hp} {Q : VK} {x : V} {t : Value} {c : String} {b : Bool} (ty : TyX K H x t) (k : PySem.W.kitOne K t (.type c) = some b) (q : Q (.bl b) H) : rIsi K [x, .ty c] H Q := ⟨x, .ty c, t, .type c, b, rfl, .ty _, ty, k, q⟩
end Dw
namespace Dw
open PySem PySem.Spec PyProof.Rows L2 SX
theorem Toks.get {H : Hp} : ∀ {n : Nat} {r : List Itm} {as : List Addr} {i : Nat} {x : Itm}, Toks H n r as → r[i]? = some x → ∃ (a : Addr) (m : Nat), as[i]? = some a ∧ H a = some (.tup [.str (S x.k), x.v, .int (m : Nat)])
  | _, [], [], _, _, _, h => by simp at h
  | n, y :: r, a :: as, 0, x, h, e => by
    obtain rfl := Option.some.inj e
    exact ⟨a, n, rfl, h.1⟩
  | n, y :: r, a :: as, i + 1, x, h, e => by
    obtain ⟨b, m, h1, h2⟩ := Toks.get (r := r) (i := i) (x := x) h.2 (by simpa using e)
    exact ⟨b, m, by simpa using h1, h2⟩
  | _, [], _ :: _, _, _, h, _ => h.elim
  | _, _ :: _, [], _, _, h, _ => h.elim
theorem run_no {l : List Nat} (h : hdIn LOW l = false) : (run LOW l && !decide (l ∈ RES)) = false := by
  unfold run
  rw [h]
  simp
theorem kinds_ne : cs "reserved" ≠ cs "name" ∧ cs "word" ≠ cs "name" ∧ cs "number" ≠ cs "name" ∧ cs "sign" ≠ cs "name" := by decide +kernel
theorem piece_name {l k : List Nat} {v : V} (h : Piece l k v) : (run LOW l && !decide (l ∈ RES)) = decide (k = cs "name") := by
  cases h with
  | res h =>
    rw [decide_eq_true h, decide_eq_false kinds_ne.1]
    simp
  | name h => rw [gname_iff.mpr h, decide_eq_true rfl]
  | word h =>
    obtain ⟨c, r, e, hc⟩ := h.hd
    rw [decide_eq_false kinds_ne.2.1, run_no]
    rw [e]
    exact decide_eq_false (upp_ok c hc).1
  | num n h =>
    obtain ⟨n1, n2, _⟩ := num_ok n h
    obtain ⟨c, r, e⟩ := cons_of n1
    rw [decide_eq_false kinds_ne.2.2.1, run_no]
    rw [e]
    exact decide_eq_false (dig_ok c (n2 c (by rw [e]; exact List.mem_cons_self))).1
  | sign h =>
    rw [decide_eq_false kinds_ne.2.2.2, run_no (sgn_ok l h).2.1]
theorem tv_bool {K : PySem.W.Frag} {H : Hp} {v : V} {d : PyData} (h : TV v d) : ∃ t, TyX K H v t ∧ PySem.W.kitOne K t (.type "bool") = some false := by
  cases h with
  | str z => exact ⟨_, .base (.str _), kit_ty (by decide +kernel)⟩
  | int i => exact ⟨_, .base (.int _), kit_ty (by decide +kernel)⟩
theorem kit_list {K : PySem.W.Frag} : PySem.W.kitOne K (.type "list") (.type "list") = some true := kit_ty (by decide +kernel)
/-- no names -/
def OTH : List (List Nat) := [cs "", cs "1a", List.replicate 13 97, cs "a b", cs "aB", cs "A", cs "a_"]
theorem oth_no : ∀ l ∈ OTH, (run LOW l && !decide (l ∈ RES)) = false ∧ l.length ≤ 1000 := by decide +kernel
theorem mul_a : Txt.mul (S (cs "a")) 13 = S (List.replicate 13 97) := by decide +kernel
theorem mul_z : Txt.mul (S (cs "z")) 12 = S (List.replicate 12 122) := by decide +kernel
theorem run_z : (run LOW (List.replicate 12 122) && !decide (List.replicate 12 122 ∈ RES)) = true := by decide +kernel
end Dw
namespace Dw
open PySem PySem.Spec PyProof.Rows L2 SX
/-! bad pieces -/
def BADC : List Nat := cs "!\"#$'./?@\\^_`"
inductive Bad : List Nat → Prop
  | char {c : Nat} (h : c ∈ BADC) : Bad [c]
  | longN {l : List Nat} (h0 : hdIn LOW l = true) (h1 : ∀ c ∈ l, c ∈ LOW ++ DIG) (h2 : 12 < l.length) (h3 : l.length ≤ 20) : Bad l
  | longW {l : List Nat} (h0 : hdIn UPP l = true) (h1 : ∀ c ∈ l, c ∈ UPP ++ DIG) (h2 : 12 < l.length) (h3 : l.length ≤ 20) : Bad l
  | mixN {a b : List Nat} (h0 : hdIn LOW a = true) (h1 : ∀ c ∈ a, c ∈ LOW ++ DIG) (h2 : hdIn UPP b = true) (h3 : a.length ≤ 10) (h4 : b.length ≤ 10) (h5 : ∀ c ∈ b, isAN c = true) : Bad (a ++ b)
  | mixW {a b : List Nat} (h0 : hdIn UPP a = true) (h1 : ∀ c ∈ a, c ∈ UPP ++ DIG) (h2 : hdIn LOW b = true) (h3 : a.length ≤ 10) (h4 : b.length ≤ 10) (h5 : ∀ c ∈ b, isAN c = true) : Bad (a ++ b)
  | zeros {l : List Nat} (h0 : l.head? = some 48) (h1 : ∀ c ∈ l, c ∈ DIG) (h2 : 1 < l.length) (h3 : l.length ≤ 30) : Bad l
  | big {l : List Nat} (h0 : l ≠ []) (h1 : ∀ c ∈ l, c ∈ DIG) (h2 : l.length ≤ 30) (n : Nat) (h3 : intText? (S l) = some (n : Int)) (h4 : 255 < n) : Bad l
  | letr {a b : List Nat} (h0 : a ≠ []) (h1 : ∀ c ∈ a, c ∈ DIG) (h2 : hdIn (LOW ++ UPP) b = true) (h3 : a.length ≤ 10) (h4 : b.length ≤ 10) (h5 : ∀ c ∈ b, isAN c = true) : Bad (a ++ b)
end Dw
namespace Dw
open PySem PySem.Spec PyProof.Rows L2
/-! try with several clauses, each with a name: «except A as e: .. except B as e: ..» -/
abbrev Clause := Value × Nat × (Addr → Value → Option Addr → TS)
/-- the ends of a suite whose name is unbound behind it -/
def unb (i : Nat) (D : Ends) : Ends := { nx := fun σ H => D.nx (σ.set i none) H, rt := D.rt, bk := fun σ H => D.bk (σ.set i none) H, ct := fun σ H => D.ct (σ.set i none) H }
def wNamed (K : PySem.W.Frag) (Wo : WX) (D : Ends) : List Clause → WX
  | [] => Wo
  | (c, i, ts) :: rest => fun cls d σ H => ∃ b, PySem.W.exmOne K cls c = some b ∧
      (b = true → ∀ a, H a = none → ts a cls d (unb i D) (σ.set i (some (.ref a))) H) ∧ (b = false → wNamed K Wo D rest cls d σ H)
inductive Named (X : Cx) : List ExceptHandler → List Clause → Prop
  | none : Named X [] []
  | more {x n : Str} {c : Value} {i : Nat} {ts : Addr → Value → Option Addr → TS} {st : Stmt} {sts : List Stmt} {p p' : Pos} {hs : List ExceptHandler} {l : List Clause}
      (nm : Names X x c) (at_i : X.N[i]? = some n) (loc : X.env.kindOf n = some .local)
      (su : ∀ (a : Addr) (oe : Obj) (cls : Value) (d : Option Addr) (pn : List (Addr × Obj)), Zc cls d oe → (∃ vs, oe.data = .fields vs) → PSs (X.suite a ((a, oe) :: pn)) (st :: sts) (ts a cls d))
      (rest : Named X hs l) : Named X (.ExceptHandler (some (.Name x p)) (some n) (st :: sts) p' :: hs) ((c, i, ts) :: l)
section
variable {X : Cx} {D : Ends} {Wo : WX}
/-- what the catching frame knows of the exception at a -/
structure Got (X : Cx) (pins : List (Addr × Obj)) (σ : L2.St) (H : Hp) (a : Addr) (cls : Value) (d : Option Addr) (B : Heap) (sI s' : Shared) (h : Heap) : Prop where
  J : Inv X pins σ H sI
  nb : ∀ b o, sI.heap.get? b = some o → b ∉ frs X.stack → B.get? b = some o
  up : sI.heap.UpToSlots h
  fl : HandSPX.FlyingZ B (X.env :: X.outer) a (Zc cls d) h
  na : H a = none
  os : s'.os = sI.os
  ag : AllBare s'.gens
  nL : a ≠ X.env.locals
  nF : a ∉ X.fs
theorem named_run {pins : List (Addr × Obj)} {σ : L2.St} {H : Hp} {a : Addr} {cls : Value} {d : Option Addr} {B : Heap} {sI s' : Shared} {h : Heap}
    (hst : X.stack = X.env :: X.outer) (hfm : X.env.frame = some X.env.locals) (hN : X.N.Nodup) (tk : Takes X Wo) (ok : X.Ok)
    (G : Got X pins σ H a cls d B sI s' h) : ∀ {hs : List ExceptHandler} {l : List Clause}, Named X hs l → wNamed X.K Wo D l cls d σ H →
    wpAny (model X.prog X.w) X.A (handleBy (.ref a) X.env hs) (SP X pins D) X.xe { s' with heap := h } := by
  intro hs l nmd
  have J3 : Inv X pins σ H { s' with heap := h } := G.J.landed G.nb G.fl.1 G.up G.os G.ag
  induction nmd with
  | none =>
    intro w
    refine wpAny_handleBy_nil ?_
    obtain ⟨_, _, _, oe, vs, T, oT, us, he, hz, hd, h1, _⟩ := id G.fl
    unfold PySem.passOn
    have nz : ¬ ((Value.ref T == Value.none) = true) := by simp
    have out : wpAny (model X.prog X.w) X.A (setFlight (.ref a) X.env.frame)
        (fun _ s4 => wpAny (model X.prog X.w) X.A (throw (.ref a) : Sem Flow) (SP X pins D) X.xe s4) X.xe { s' with heap := h } := by
      rw [hfm]
      refine HandSPX.setFlight_upZ G.fl fun h4 held up4 => wpAny_throw (tk _ _ ?_)
      have sky : Sky B X.stack a (Zc cls d) X.env.locals h4 := .inr (.inr (by rw [hst]; exact held))
      exact ⟨a, B, sI, pins, σ, H, cls, d, rfl, G.J, G.nb, G.up.trans up4, sky, G.na, G.os, G.ag, w⟩
    refine wpAny_bind (wpAny_field he hd h1 ?_)
    rw [if_neg nz]
    first | exact wpAny_bind (wpAny_pure (wpAny_bind out)) | exact wpAny_bind out
  | @more x n c i ts st sts p p' hs2 l2 nm at_i loc su rest ih =>
    rintro ⟨b, hb, yes, no⟩
    obtain ⟨oe, vs, he, hz, hd⟩ := G.fl.there
    have S3 := J3.suite he hd G.na G.nL G.nF
    have typ : PySem.W.Looks (model X.prog X.w) h (typeOf (.ref a)) cls := fun A Q E s k q => wpAny_typeOf_ref (k _ _ he) (by rw [hz.1]; exact q)
    have look := PySem.W.exm_one (M := model X.prog X.w) J3.kIn typ hb
    refine wpAny_handleBy_cons (codeAny_handlers_test ?_) (by intro q; cases q)
    have name : ∀ {Q : Value → Shared → Prop} {E : Value → Shared → Prop}, Q c { s' with heap := h } →
        wpAny (model X.prog X.w) (X.A.mark (some (.ref a))) (eval (.Name x p) X.env) Q E { s' with heap := h } := by
      intro Q E q
      obtain ⟨g1, g2, g3 | ⟨g3, g4, g5⟩⟩ := nm
      · exact ld_glob (X := X.suite a ((a, oe) :: (X.pn ++ pins))) S3 g1 g3 q g2
      · exact ld_blt (X := X.suite a ((a, oe) :: (X.pn ++ pins))) S3 g1 g3 g4 q g5 g2
    refine name (look.here ?_)
    cases b with
    | false =>
      show wpAny _ X.A (handleBy (.ref a) X.env hs2) _ _ _
      exact ih (no rfl)
    | true =>
      refine codeAny_handlers_suite_as (HandSPX.lands_againZ G.fl fun h4 fl4 up4 => ?_)
      have J4 : Inv X pins σ H { s' with heap := h4 } := G.J.landed G.nb fl4.1 (G.up.trans up4) G.os G.ag
      obtain ⟨oe4, vs4, he4, hz4, hd4⟩ := fl4.there
      have S4 := J4.suite he4 hd4 G.na G.nL G.nF
      refine store_ok (X := X.suite a ((a, oe4) :: (X.pn ++ pins))) (v := .ref a) S4 hN at_i (.inl loc) rfl (fun s5 S5 => ?_) (.inr loc)
      refine wpAny_mono ((su a oe4 cls d (X.pn ++ pins) hz4 ⟨_, hd4⟩).run [] s5 _ H (unb i D) S5 (yes rfl a G.na)) (fun f s6 done => ?_) (fun _ _ z => False.elim z)
      have behind : ∀ {σ6 : L2.St} {H6 : Hp} {Q : Shared → Prop}, Inv (X.suite a ((a, oe4) :: (X.pn ++ pins))) [] σ6 H6 s6 → (∀ s7, Inv X pins (σ6.set i none) H6 s7 → Q s7) →
          wpAny (model X.prog X.w) X.A (do bindName X.env n .none; unbindBehindTheSuite X.env n p') (fun _ s7 => Q s7) X.xe s6 :=
        fun {σ6 H6 Q} S6 hq => gone_ok (S6.unsuite ok) hN at_i loc hq
      cases f with
      | ret u => obtain ⟨v6, σ6, H6, S6, r6, q6⟩ := done; exact behind S6 fun s7 J7 => ⟨_, _, _, J7, r6, q6⟩
      | next => obtain ⟨σ6, H6, S6, q6⟩ := done; exact behind S6 fun s7 J7 => ⟨_, _, J7, q6⟩
      | brk => obtain ⟨σ6, H6, S6, q6⟩ := done; exact behind S6 fun s7 J7 => ⟨_, _, J7, q6⟩
      | cont => obtain ⟨σ6, H6, S6, q6⟩ := done; exact behind S6 fun s7 J7 => ⟨_, _, J7, q6⟩
variable {body : List Stmt} {hd0 : ExceptHandler} {hds : List ExceptHandler} {l : List Clause} {pos : Pos} {tb : WX → TS}
theorem ps_try_named (hst : X.stack = X.env :: X.outer) (hfm : X.env.frame = some X.env.locals) (hN : X.N.Nodup) (tk : Takes X Wo)
    (hb : ∀ (W : WX) (pn : List (Addr × Obj)) (xe : Value → Shared → Prop), Takes (X.tr pn xe) W → PassesOwn (model X.prog X.w) X.A X.env xe → PSs (X.tr pn xe) body (tb W))
    (hh : Named X (hd0 :: hds) l) : PS X (.Try body (hd0 :: hds) [] [] pos) (fun D σ H => tb (wNamed X.K Wo D l) D σ H) := by
  refine ⟨fun pins s σ H D I q0 => wpAny_Try_except ?_⟩
  have ok := I.ok
  have hfr : X.A.frames = some (X.env :: X.outer) := by rw [ok.frames, hst]
  let xe : Value → Shared → Prop := fun e s₁ => wpAny (model X.prog X.w) X.A (noteFrame e X.env)
    (fun _ s₂ => wpAny (model X.prog X.w) X.A (setFlight e none) (fun _ s₃ => wpAny (model X.prog X.w) X.A (handleBy e X.env (hd0 :: hds)) (SP X pins D) X.xe s₃) X.xe s₂) X.xe s₁
  have takes : Takes (X.tr (X.pn ++ pins) xe) (wNamed X.K Wo D l) := by
    rintro u s' ⟨a, B, sI, pins', σ', H', cls, d, rfl, J', nb, up, sky, na, os, ag, w⟩
    have J : Inv X pins σ' H' sI := J'.ofTry ok
    have sky' : Sky B (X.env :: X.outer) a (Zc cls d) X.env.locals s'.heap := by rw [← hst]; exact sky
    show wpAny (model X.prog X.w) X.A (noteFrame (.ref a) X.env) _ _ _
    refine Sky.land Zc.steady hfr hfm sky' fun h3 fl3 up3 => ?_
    obtain ⟨oe3, vs3, he3, _, hd3⟩ := fl3.there
    have far : a ∉ frs (X.env :: X.outer) := fun hm => by
      obtain ⟨_, o', e', hnf⟩ := fl3.2.2.1.mem hm
      rw [he3] at e'
      cases e'
      exact hnf _ hd3
    refine named_run hst hfm hN tk ok ⟨J, nb, up.trans up3, fl3, na, os, ag, fun z => ?_, fun hm => ?_⟩ hh w
    · exact far (List.mem_filterMap.mpr ⟨X.env, List.mem_cons_self, by rw [hfm, z]⟩)
    · obtain ⟨e, he, q⟩ := List.mem_filterMap.mp hm
      exact far (List.mem_filterMap.mpr ⟨e, List.mem_cons_of_mem _ he, q⟩)
  refine wpAny_mono ((hb _ (X.pn ++ pins) xe takes PassesOwn.looking).run [] s σ H D (I.toTry _) q0) (fun f s1 done => ?_) (fun _ _ z => z)
  cases f with
  | ret u => obtain ⟨v, σ', H', J', r, q⟩ := done; exact ⟨v, σ', H', J'.ofTry ok, r, q⟩
  | next => obtain ⟨σ', H', J', q⟩ := done; exact wpAny_execs_nil ⟨σ', H', J'.ofTry ok, q⟩
  | brk => obtain ⟨σ', H', J', q⟩ := done; exact ⟨σ', H', J'.ofTry ok, q⟩
  | cont => obtain ⟨σ', H', J', q⟩ := done; exact ⟨σ', H', J'.ofTry ok, q⟩
end
end Dw
namespace Dw
open PySem PySem.Spec PyProof.Rows L2 SX
/-! own exceptions with one field -/
def sp_init (C : Addr) (f : Str) : Sp := fun vs H Q _ => ∃ (a : Addr) (v : V), vs = [.ref a, v] ∧ H a = some (exo a C none) ∧ ∀ dx, H dx = none → dx ≠ a → Q .non (upd (upd H dx (exd dx [(f, v)])) a (exo a C (some dx)))
/-- a class of own exceptions whose __init__ stores its one argument -/
structure ExF (P : Program) (w : World) (K : PySem.W.Frag) (mg : Str → Option Value) (base : Heap) (x : Str) (C : Addr) (f : Str) : Prop where
  T : OexC K C
  g : mg x = some (.ref C)
  xf : XfC K C
  nof : PySem.W.findIn K (.ref C) f = some none
  ini : ∃ (fI : Addr) (fd : FuncData), PySem.W.findIn K (.ref C) "__init__" = some (some (.ref fI)) ∧ PySem.W.typeIn K (.ref fI) = some (.type "function") ∧ FnOk P w K mg base C8.CX0 1 fI fd ["self", f] (sp_init C f) ∧ Binds K fd ["self", f] []
section
variable {X : Cx} {x f : Str} {C : Addr} {k : Nat} {e : Expr} {ta : TA} {p pos : Pos}
theorem pmk_ex (F : ExF X.prog X.w X.K X.mg X.base x C f) (hr : Room k X.A) (hk : 2 ≤ k) (hg : Gl X x) (ha : PA X [e] ta)
    (hdb : (x == ("__debug__" : Str)) = false := by decide) (he : starEach (e :: []) X.env = (false, eval e X.env) :: starEach [] X.env := by rfl) (hpl : (backTo pos (starEach [] X.env)).any (·.1) = false := by rfl) :
    PMk X (.Call (.Name x p) [e] [] pos) (tMkO C (sp_init C f) [] ta) := by
  obtain ⟨fI, fd, h1, h2, h3, h4⟩ := F.ini
  exact pmk_oex F.T h1 h2 h3 (hr.mono hk) h4 .nil C8.pass0 hg F.g ha hdb he hpl
end
theorem raise_ok {C : Addr} {f : Str} {v : V} {H : Hp} {E : XK} (ok : ∀ d H', Same H H' → H d = none → H' d = some (.xd [(f, v)]) → E (.ref C) (some d) H') {a : Addr} (ha : H a = none) :
    sp_init C f [.ref a, v] (upd H a (exo a C none)) (fun v H2 => v = .non ∧ ∃ (d : Addr) (fs : List (Str × V)), H2 a = some (exo a C (some d)) ∧ H2 d = some (exd d fs) ∧ H d = none ∧ E (.ref C) (some d) (upd (del H2 a) d (.xd fs))) (fun _ _ _ => False) := by
  refine ⟨a, v, rfl, upd_same, fun dx hd hne => ⟨rfl, dx, [(f, v)], upd_same, ?_, ?_, ?_⟩⟩
  · rw [upd_ne hne, upd_same]
  · rw [upd_ne hne] at hd
    exact hd
  · have hd0 : H dx = none := by
      rw [upd_ne hne] at hd
      exact hd
    refine ok dx _ (fun b o hb => ?_) hd0 upd_same
    have h1 : b ≠ dx := ne_of_none hb hd0
    have h2 : b ≠ a := ne_of_none hb ha
    rw [upd_ne h1, del_ne h2, upd_ne h2, upd_ne h1, upd_ne h2]
    exact hb
theorem exm_of {K : PySem.W.Frag} {S C : Addr} {b : Bool} (h1 : PySem.W.subIn K (.ref C) (.type "BaseException") = some true) (h2 : PySem.W.isClsIn K C = true) (h3 : PySem.W.typeIn K (.ref C) = some (.type "type")) (h4 : PySem.W.subIn K (.ref S) (.ref C) = some b) :
    PySem.W.exmOne K (.ref S) (.ref C) = some b := by
  have e1 : (PySem.W.subIn K (.ref C) (.type "BaseException") == some true) = true := by rw [h1]; rfl
  have h2' : (PySem.W.clsIn K C).isSome = true := h2
  have e2 : ((PySem.W.clsIn K C).isSome && PySem.W.typeIn K (.ref C) == some (.type "type")) = true := by
    rw [h2', h3]; rfl
  unfold PySem.W.exmOne
  rw [if_pos e1]
  unfold PySem.W.kitCls
  first
    | rw [if_pos e2, h4]
    | simp only [e2, h4, if_true]
/-! defs that may raise -/
structure CalX (P : Program) (w : World) (K : PySem.W.Frag) (mg : Str → Option Value) (base : Heap) (k : Nat) (x : Str) (sp : Sp) : Prop where
  ex : ∃ (f : Addr) (fd : FuncData) (ps : List Str), FnOk P w K mg base (L2.CX P w) k f fd ps sp ∧ mg x = some (.ref f) ∧ PySem.W.keepIn K (.ref f) = true ∧ Binds K fd ps []
section
variable {P : Program} {w : World} {K : PySem.W.Frag} {mg : Str → Option Value} {base : Heap}
theorem calX0 {x : Str} {st : Stmt} {f : Addr} {fd : FuncData} {N ps : List Str} {k : Nat} {sp : Sp} (F : C8.Def K mg x st f fd) (b : Binds K fd ps []) (S : FnScope N ps (C8.fnScope st)) (len : ∀ vs H Q E, sp vs H Q E → vs.length = ps.length)
    (hbody : ∀ (cdv : Value) (A : Around) (outer : List Env) (s : Shared) (H : Hp) (vs : List V) (Q : VK) (E : XK), Room k (A.deeper (envOfC x (C8.fnScope st) s.heap.objs.size f cdv)) → sp vs H Q E →
      ∃ t, PSs (cxOf (L2.CX P w) P w K mg base N x (C8.fnScope st) f cdv A outer s H E) (C8.fnBody st) t ∧ t { nx := fun _ H' => Q .non H', rt := Q } (start N vs) H) : CalX P w K mg base (k + 1) x sp := by
  refine ⟨f, fd, ps, ?_, F.mgf, F.kp, b⟩
  obtain ⟨oc, od, dV, kV, doc, pm, an, cdv, ct, osl, rfl, lk, hcd⟩ := F.fn.ex
  exact fn_of lk hcd S len fun A outer s H vs Q E hr hsp => hbody cdv A outer s H vs Q E hr hsp
end
section
variable {X : Cx} {k j : Nat} {x : Str} {sp : Sp} {p pos : Pos} {e : Expr} {es : List Expr} {t : TA}
/-- its call in a def that lets the same out -/
theorem pe_cx {E : XK} (c : CalX X.prog X.w X.K X.mg X.base k x sp) (hr : Room j X.A) (hk : k ≤ j) (hx : Passes (L2.CX X.prog X.w) X E) (hg : Gl X x) (ha : PA X (e :: es) t)
    (hdb : (x == ("__debug__" : Str)) = false := by decide) (he : starEach (e :: es) X.env = (false, eval e X.env) :: starEach es X.env := by rfl) (hpl : (backTo pos (starEach es X.env)).any (·.1) = false := by rfl) :
    PE X (.Call (.Name x p) (e :: es) [] pos) (tCall sp [] E t) := by
  obtain ⟨f, fd, ps, F, hm, kp, b⟩ := c.ex
  exact pe_call F (hr.mono hk) hg hm kp b .nil hx ha hdb he hpl
/-- its call in a try -/
theorem pe_cs {W : WX} (c : CalX X.prog X.w X.K X.mg X.base k x sp) (hr : Room j X.A) (hk : k ≤ j) (tk : Takes X W) (hg : Gl X x) (ha : PA X (e :: es) t)
    (hdb : (x == ("__debug__" : Str)) = false := by decide) (he : starEach (e :: es) X.env = (false, eval e X.env) :: starEach es X.env := by rfl) (hpl : (backTo pos (starEach es X.env)).any (·.1) = false := by rfl) :
    PE X (.Call (.Name x p) (e :: es) [] pos) (tCallS sp (WE W) t) := by
  obtain ⟨f, fd, ps, F, hm, kp, b⟩ := c.ex
  exact pe_callS F (hr.mono hk) hg hm kp b (fun σ => passAt tk σ) ha hdb he hpl
end
end Dw
namespace Dw
open PySem PySem.Spec PyProof.Rows L2 SX
/-- an own error of class C with this field is let out -/
def Rz (C : Addr) (f : Str) (v : V) (H : Hp) (E : XK) : Prop := ∀ d H', Same H H' → H d = none → H' d = some (.xd [(f, v)]) → E (.ref C) (some d) H'
theorem Rz.same {C : Addr} {f : Str} {v : V} {H H1 : Hp} {E : XK} (h : Rz C f v H E) (e : Same H H1) : Rz C f v H1 E := fun d H' s n x => h d H' (e.trans s) (e.free n) x
theorem raise_rz {C : Addr} {f : Str} {v : V} {H : Hp} {E : XK} (ok : Rz C f v H E) {a : Addr} (ha : H a = none) :
    sp_init C f [.ref a, v] (upd H a (exo a C none)) (fun v H2 => v = .non ∧ ∃ d : Addr, H2 a = some (exo a C (some d)) ∧ ∃ fs : List (Str × V), H2 d = some (exd d fs) ∧ H d = none ∧ E (.ref C) (some d) (upd (del H2 a) d (.xd fs))) (fun _ _ _ => False) := by
  obtain ⟨a1, v1, h1, h2, h3⟩ := raise_ok ok ha
  refine ⟨a1, v1, h1, h2, fun dx hd hne => ?_⟩
  obtain ⟨h4, d, fs, h5, h6, h7, h8⟩ := h3 dx hd hne
  exact ⟨h4, d, h5, fs, h6, h7, h8⟩
theorem hdIn_app {ch a b : List Nat} (h : hdIn ch a = true) : hdIn ch (a ++ b) = true := by
  cases a with
  | nil => cases h
  | cons c r => exact h
theorem hdIn_no {ch ch' a b : List Nat} (h : hdIn ch a = true) (d : ∀ c ∈ ch, c ∉ ch') : hdIn ch' (a ++ b) = false := by
  cases a with
  | nil => cases h
  | cons c r => exact decide_eq_false (d c (of_decide_eq_true h))
end Dw
namespace Dw
open PySem PySem.Spec PyProof.Rows L2 SX
theorem badc_ok : ∀ c ∈ BADC, c ∉ LOW ∧ c ∉ UPP ∧ c ∉ DIG ∧ c ≠ 32 ∧ c ≠ 10 ∧ ∀ s ∈ SGN, s.head? = some c → s = [33, 61] := by decide +kernel
theorem ul_no : ∀ c ∈ UPP, c ∉ LOW ++ DIG := by decide +kernel
theorem lu_no : ∀ c ∈ LOW, c ∉ UPP ++ DIG := by decide +kernel
theorem lud_no : ∀ c ∈ LOW ++ UPP, c ∉ DIG := by decide +kernel
theorem bad_hd {l : List Nat} (h : Bad l) : ∃ c r, l = c :: r ∧ c ≠ 32 ∧ c ≠ 10 := by
  have pick : ∀ {ch a : List Nat}, hdIn ch a = true → ∃ c r, a = c :: r ∧ c ∈ ch := fun {ch a} h => by
    cases a with
    | nil => cases h
    | cons c r => exact ⟨c, r, rfl, of_decide_eq_true h⟩
  cases h with
  | char h => exact ⟨_, [], rfl, (badc_ok _ h).2.2.2.1, (badc_ok _ h).2.2.2.2.1⟩
  | longN h0 h1 h2 h3 => obtain ⟨c, r, e, hc⟩ := pick h0; exact ⟨c, r, e, low_ok c hc⟩
  | longW h0 h1 h2 h3 => obtain ⟨c, r, e, hc⟩ := pick h0; exact ⟨c, r, e, (upp_ok c hc).2⟩
  | mixN h0 h1 h2 h3 h4 h5 => obtain ⟨c, r, e, hc⟩ := pick h0; exact ⟨c, _, by rw [e]; rfl, low_ok c hc⟩
  | mixW h0 h1 h2 h3 h4 h5 => obtain ⟨c, r, e, hc⟩ := pick h0; exact ⟨c, _, by rw [e]; rfl, (upp_ok c hc).2⟩
  | zeros h0 h1 h2 h3 =>
    cases l with
    | nil => cases h0
    | cons c r => exact ⟨c, r, rfl, (dig_ok c (h1 c List.mem_cons_self)).2.2⟩
  | big h0 h1 h2 n h3 h4 =>
    obtain ⟨c, r, e⟩ := cons_of h0
    exact ⟨c, r, e, (dig_ok c (h1 c (by rw [e]; exact List.mem_cons_self))).2.2⟩
  | letr h0 h1 h2 h3 h4 h5 =>
    obtain ⟨c, r, e⟩ := cons_of h0
    exact ⟨c, _, by rw [e]; rfl, (dig_ok c (h1 c (by rw [e]; exact List.mem_cons_self))).2.2⟩
theorem bad_len {l : List Nat} (h : Bad l) : l.length ≤ 30 := by
  cases h with
  | char h => exact (show 1 ≤ 30 by decide)
  | longN h0 h1 h2 h3 => omega
  | longW h0 h1 h2 h3 => omega
  | mixN h0 h1 h2 h3 h4 h5 => rw [List.length_append]; omega
  | mixW h0 h1 h2 h3 h4 h5 => rw [List.length_append]; omega
  | zeros h0 h1 h2 h3 => exact h3
  | big h0 h1 h2 n h3 h4 => exact h2
  | letr h0 h1 h2 h3 h4 h5 => rw [List.length_append]; omega
theorem char_no {c : Nat} {rest : List Nat} (h : c ∈ BADC) (h61 : hdIn [61] rest = false) : ∀ s ∈ SGN, pfx s ([c] ++ rest) = false := by
  intro s hs
  cases hp : pfx s ([c] ++ rest) with
  | false => rfl
  | true =>
    exfalso
    obtain ⟨r, hr⟩ := pfx_iff.mp hp
    obtain ⟨c', s', e⟩ := cons_of (sgn_ok s hs).1
    rw [e] at hr
    have hc : c = c' := (List.cons.inj hr).1
    have := (badc_ok c h).2.2.2.2.2 s hs (by rw [e, hc]; rfl)
    rw [this] at e
    obtain ⟨e1, e2⟩ := List.cons.inj e
    have h2 : rest = s' ++ r := (List.cons.inj hr).2
    rw [← e2] at h2
    rw [h2] at h61
    have h3 : hdIn [61] ([61] ++ r) = true := by
      show decide (61 ∈ [61]) = true
      decide
    rw [h3] at h61
    cases h61
end Dw
namespace Dw
open PySem PySem.Spec PyProof.Rows L2 SX
def GoodsT (tl : List Nat) : List Itm → Prop
  | [] => True
  | x :: r => Piece x.l x.k x.v ∧ Blank x.sp ∧ After x.l (x.sp ++ (iflat r ++ tl)) ∧ GoodsT tl r
theorem GoodsT.append {tl : List Nat} : ∀ {a b : List Itm}, GoodsT tl (a ++ b) → GoodsT tl b
  | [], _, h => h
  | _ :: a, _, h => GoodsT.append (a := a) h.2.2.2
end Dw
namespace Dw
open PySem PySem.Spec PyProof.Rows L2 SX
theorem fold_rep (c : Nat) : ∀ (n : Nat) (a : Array Nat), (List.replicate n #[c]).foldl (· ++ ·) a = a ++ (List.replicate n c).toArray
  | 0, a => by simp
  | n + 1, a => by
    rw [List.replicate_succ, List.foldl_cons, fold_rep c n, List.replicate_succ, Array.append_assoc]
    congr 1
    simp
theorem mul_S (c n : Nat) : Txt.mul (S [c]) ((n : Nat) : Int) = S (List.replicate n c) := by
  unfold Txt.mul
  by_cases h : n = 0
  · subst h
    rfl
  · rw [if_neg (by omega)]
    by_cases h1 : n = 1
    · subst h1
      rfl
    · have e : (((n : Nat) : Int) == 1 || (S [c]).length == 0) = false := by
        rw [len_S]
        simp
        omega
      rw [if_neg (by rw [e]; exact Bool.false_ne_true), Int.toNat_natCast]
      show (⟨(List.replicate n #[c]).foldl (· ++ ·) #[]⟩ : Str) = ⟨(List.replicate n c).toArray⟩
      rw [fold_rep]
      simp
theorem mulOk_S (c n : Nat) (h : n ≤ 10000) : MulOk (S [c]) ((n : Nat) : Int) := mulOk_of 1 10000 (by rw [len_S]; exact Nat.le_refl 1) (by omega) (by omega) (by decide) (by decide)
theorem num_eq (n : Nat) : num n = TL.numL n := TL.tl_num n
theorem dig_in : ∀ c : Nat, 48 ≤ c → c ≤ 57 → c ∈ DIG := by
  intro c h1 h2
  have : ∀ k : Fin 10, 48 + k.val ∈ DIG := by decide +kernel
  have := this ⟨c - 48, by omega⟩
  rw [show 48 + (c - 48) = c by omega] at this
  exact this
theorem num_big {n : Nat} (h : n < 10 ^ 9) : num n ≠ [] ∧ (∀ c ∈ num n, c ∈ DIG) ∧ (num n).length ≤ 9 ∧ intText? (S (num n)) = some (n : Int) := by
  have h1 : (TL.numL n).length ≤ 9 := TL.numL_len (by decide) h
  refine ⟨?_, ?_, ?_, ?_⟩
  · rw [num_eq]; exact TL.numL_ne n
  · intro c hc
    rw [num_eq] at hc
    have := TL.numL_digits n c hc
    exact dig_in c this.1 this.2
  · rw [num_eq]; exact h1
  · rw [num_eq, ← num_S]
    exact TL.int_num (by omega)
theorem log_small {n : Nat} (h : n < 10 ^ 9) : ((n : Nat) : Int).natAbs.log2 < 1920 := by
  rw [Int.natAbs_natCast]
  by_cases h0 : n = 0
  · subst h0; decide
  · exact Nat.lt_of_lt_of_le ((Nat.log2_lt h0).mpr (show n < 2 ^ 30 by omega)) (by decide)
theorem lu_up : ∀ s ∈ ["a", "x9", "Z", "all"], hdIn (LOW ++ UPP) (cs s) = true ∧ (cs s).length ≤ 10 ∧ ∀ c ∈ cs s, isAN c = true := by decide +kernel
theorem mixed_bad : Bad (cs "aB") ∧ Bad (cs "Ab") ∧ Bad (cs "x1Y") ∧ Bad (cs "TX0y") := by
  refine ⟨.mixN (a := cs "a") (b := cs "B") ?_ ?_ ?_ ?_ ?_ ?_, .mixW (a := cs "A") (b := cs "b") ?_ ?_ ?_ ?_ ?_ ?_, .mixN (a := cs "x1") (b := cs "Y") ?_ ?_ ?_ ?_ ?_ ?_, .mixW (a := cs "TX0") (b := cs "y") ?_ ?_ ?_ ?_ ?_ ?_⟩ <;> decide +kernel
theorem long_bad {k : Nat} (h1 : 12 ≤ k) (h2 : k ≤ 16) : Bad (cs "a" ++ List.replicate k 57) ∧ Bad (cs "Z" ++ List.replicate k 57) := by
  have e1 : cs "a" = [97] := by decide +kernel
  have e2 : cs "Z" = [90] := by decide +kernel
  rw [e1, e2]
  have a1 : (97 : Nat) ∈ LOW := by decide +kernel
  have a2 : (90 : Nat) ∈ UPP := by decide +kernel
  refine ⟨.longN (show decide ((97 : Nat) ∈ LOW) = true from decide_eq_true a1) ?_ ?_ ?_, .longW (show decide ((90 : Nat) ∈ UPP) = true from decide_eq_true a2) ?_ ?_ ?_⟩
  · intro c hc
    rcases List.mem_cons.mp hc with e | e
    · rw [e]; decide +kernel
    · rw [(List.mem_replicate.mp e).2]; decide +kernel
  · simp; omega
  · simp; omega
  · intro c hc
    rcases List.mem_cons.mp hc with e | e
    · rw [e]; decide +kernel
    · rw [(List.mem_replicate.mp e).2]; decide +kernel
  · simp; omega
  · simp; omega
theorem zeros_bad {k n : Nat} (h1 : 1 ≤ k) (h2 : k ≤ 3) (hn : n < 10 ^ 9) : Bad (List.replicate k 48 ++ num n) := by
  obtain ⟨n1, n2, n3, _⟩ := num_big hn
  have hp : 0 < (num n).length := List.length_pos_iff.mpr n1
  refine .zeros ?_ ?_ ?_ ?_
  · obtain ⟨k', rfl⟩ : ∃ k', k = k' + 1 := ⟨k - 1, by omega⟩
    rfl
  · intro c hc
    rcases List.mem_append.mp hc with e | e
    · rw [(List.mem_replicate.mp e).2]; decide +kernel
    · exact n2 c e
  · rw [List.length_append, List.length_replicate]; omega
  · rw [List.length_append, List.length_replicate]; omega
theorem big_bad {n : Nat} (h : 255 < n) (hn : n < 10 ^ 9) : Bad (num n) := by
  obtain ⟨n1, n2, n3, n4⟩ := num_big hn
  exact .big n1 n2 (by omega) n n4 h
theorem letr_bad {n : Nat} (hn : n < 10 ^ 9) {s : String} (hs : s ∈ ["a", "x9", "Z", "all"]) : Bad (num n ++ cs s) := by
  obtain ⟨n1, n2, n3, _⟩ := num_big hn
  obtain ⟨s1, s2, s3⟩ := lu_up s hs
  exact .letr n1 n2 s1 (by omega) s2 s3
theorem bad_lt {l : List Nat} (h : Bad l) : l ≠ [] ∧ l.length ≤ 100 := by
  obtain ⟨c, r, e, _⟩ := bad_hd h
  exact ⟨by rw [e]; exact List.cons_ne_nil _ _, by have := bad_len h; omega⟩
end Dw
namespace Dw
open PySem PySem.Spec PyProof.Rows L2 SX
/-! sets of texts with their order -/
def tkey (e : Int × Value) : Str := match e.2 with | .str z _ => z | _ => Str.empty
def GoodT (P : Program) (w : World) (e : Int × Value) : Prop := ∃ z u, e.2 = Value.str z u ∧ e.1 = (PySem.strKind P w).hash z
/-- at a: a set of the texts ks -/
def TxSet (P : Program) (w : World) (h : Heap) (a : Addr) (ks : List Str) : Prop :=
  ∃ ob xs ep tb, h.get? a = some ob ∧ ob.ExactSet ∧ ob.data = .set xs ep tb ∧ (∀ e ∈ xs.toList, GoodT P w e) ∧ (xs.toList.map tkey).Perm ks ∧ ks.Nodup ∧
    xs.size < scanBound ∧ tb.fits xs.size = true ∧ Ris tb.place.toList ∧ (w.params.followText "set-order" = true ∨ tb.led = true)
section
variable {P : Program} {w : World} {h h' : Heap} {a : Addr} {ks : List Str}
theorem TxSet.at (R : TxSet P w h a ks) (k : ∀ ob, h.get? a = some ob → h'.get? a = some ob) : TxSet P w h' a ks := by
  obtain ⟨ob, xs, ep, tb, g, rest⟩ := R
  exact ⟨ob, xs, ep, tb, k ob g, rest⟩
theorem goodT_elems {l : List (Int × Value)} (g : ∀ e ∈ l, GoodT P w e) : ElemsOf (PySem.strKind P w) l := fun e he => by
  obtain ⟨z, u, e1, e2⟩ := g e he
  exact ⟨⟨z, by rw [e1]; exact strKind_is P w z u, e2⟩, by rw [e1] <;> rfl⟩
theorem goodT_is {e : Int × Value} (g : GoodT P w e) (z : Str) : (PySem.strKind P w).is z e.2 = true ↔ tkey e = z := by
  obtain ⟨z0, u, e1, _⟩ := g
  unfold tkey
  rw [e1]
  show ((z0 == z) = true) ↔ z0 = z
  exact beq_iff_eq
end
section
variable {P : Program} {w : World} {A : Around} {E : Value → Shared → Prop} {s : Shared} {a : Addr} {ks : List Str}
def putT (z : Str) (ks : List Str) : List Str := if z ∈ ks then ks else z :: ks
/-- what stands behind the laying of one more -/
theorem tx_tail {gv : Bool → Sem Unit} (hgv : ∀ (b : Bool) (s1 : Shared) (R1 : Unit → Shared → Prop), R1 () s1 → wpAny (model P w) A (gv b) R1 E s1)
    {ob : Obj} {xs : Array (Int × Value)} {ep : Nat} {tb : SetTable} (ho : s.heap.get? a = some ob) (hx : ob.ExactSet) (hd : ob.data = .set xs ep tb)
    {ys : Array (Int × Value)} {tc : SetTable} {ls : List Str} (g1 : ∀ e ∈ ys.toList, GoodT P w e) (pm1 : (ys.toList.map tkey).Perm ls) (nd1 : ls.Nodup)
    (b1 : ys.size < scanBound) (f1 : tc.fits ys.size = true) (r1 : Ris tc.place.toList) (l1 : w.params.followText "set-order" = true ∨ tc.led = true) {wd : Bool} {R : Option Bool → Shared → Prop}
    (hR : ∀ h', Heap.SameBut a s.heap h' → TxSet P w h' a ls → R (some true) { s with heap := h' }) :
    wpAny (model P w) A (do
        storeSet a ys tc
        if (!wd && tc.tooFull) = true then do
            gv (relayAll tc ys (SetTable.grown ys.size)).2.2
            storeSet a (relayAll tc ys (SetTable.grown ys.size)).1 (relayAll tc ys (SetTable.grown ys.size)).2.1
            pure (some true)
          else pure (some true)) R E s := by
  refine wpAny_bind (wpAny_storeSet_of ho hd ?_ (fits_of_scanBound b1))
  have o1 := store_at (es' := ys) (t' := tc) ho hd
  have sb := Heap.SameBut.update s.heap a (Obj.putSet ys tc)
  split
  · have pz := relayAll_perm tc ys (SetTable.grown ys.size)
    have fz := relayAll_fits tc ys (SetTable.grown ys.size)
    have rz := relayAll_ris tc ys (SetTable.grown ys.size)
    have lz := relayAll_led tc ys (SetTable.grown ys.size)
    generalize relayAll tc ys (SetTable.grown ys.size) = Z at pz fz rz lz ⊢
    obtain ⟨zs, td, gave⟩ := Z
    dsimp only at pz fz rz lz ⊢
    have hz : zs.size = ys.size := by rw [← Array.length_toList, pz.length_eq, Array.length_toList]
    have bz : zs.size < scanBound := by rw [hz]; exact b1
    refine wpAny_bind (hgv _ _ _ ?_)
    refine wpAny_bind (wpAny_storeSet_of o1 rfl ?_ (fits_of_scanBound bz))
    have o2 := store_at (es' := zs) (t' := td) o1 rfl
    refine wpAny_pure (hR _ (sb.trans (Heap.SameBut.update _ a _)) ?_)
    exact ⟨_, zs, _, td, o2, hx, rfl, fun e m => g1 e (pz.mem_iff.mp m), (pz.map tkey).trans pm1, nd1, bz, fz, rz, l1.imp id fun q => by rw [lz]; exact q⟩
  · exact wpAny_pure (hR _ sb ⟨_, ys, _, tc, o1, hx, rfl, g1, pm1, nd1, b1, f1, r1, l1⟩)
theorem tx_add {z : Str} {u : Tok} {Q : Bool → Shared → Prop} (R : TxSet P w s.heap a ks) (room : ks.length + 1 < scanBound)
    (hQ : ∀ h', Heap.SameBut a s.heap h' → TxSet P w h' a (putT z ks) → Q (!decide (z ∈ ks)) { s with heap := h' }) :
    wpAny (model P w) A (setAddHashed a (.str z u) ((PySem.strKind P w).hash z)) Q E s := by
  obtain ⟨ob, xs, ep, tb, ho, hx, hd, g, pm, nd, hb, hf, hr, hl⟩ := R
  have hkey : (PySem.strKind P w).is z (.str z u) = true := strKind_is P w z u
  have hsc : (Value.str z u).scannable = true := rfl
  have hel := goodT_elems g
  have hmem : z ∈ ks ↔ ∃ e ∈ xs.toList, (PySem.strKind P w).is z e.2 = true := by
    rw [← pm.mem_iff, List.mem_map]
    constructor
    · rintro ⟨e, m, q⟩
      exact ⟨e, m, (goodT_is (g e m) z).2 q⟩
    · rintro ⟨e, m, q⟩
      exact ⟨e, m, (goodT_is (g e m) z).1 q⟩
  unfold setAddHashed setAddHashedIn
  refine wpAny_holding (wpAny_bind (wpAny_setState_of ho hd hf ?_))
  dsimp only
  rw [byScan_of hsc hb hel]
  simp only [↓reduceIte]
  unfold setAddByScan
  refine wpAny_bind ?_
  refine wpAny_bind (wpAny_rule ?_)
  refine wpAny_bind (wpAny_setScan_of hkey ho hd hf hel ?_)
  cases hfi : List.findIdx? (fun e => (PySem.strKind P w).is z e.2) xs.toList with
  | some j =>
    dsimp only
    obtain ⟨hj, pj, _⟩ := List.findIdx?_eq_some_iff_getElem.mp hfi
    have hin : z ∈ ks := hmem.2 ⟨xs.toList[j], List.getElem_mem hj, pj⟩
    refine wpAny_pure (wpAny_pure ?_)
    have q := hQ s.heap (Heap.SameBut.refl a s.heap) (by
      unfold putT
      rw [if_pos hin]
      exact ⟨ob, xs, ep, tb, ho, hx, hd, g, pm, nd, hb, hf, hr, hl⟩)
    rw [decide_eq_true hin] at q
    exact q
  | none =>
    dsimp only
    have hout : z ∉ ks := fun m => by
      obtain ⟨e, m1, q⟩ := hmem.1 m
      have c := List.findIdx?_eq_none_iff.mp hfi e m1
      rw [q] at c
      cases c
    have hgv : ∀ (b : Bool) {s1 : Shared} {R1 : Unit → Shared → Prop}, R1 () s1 → wpAny (model P w) A (match b with | true => rule "set.scan.the-table-gave-way" | false => pure ()) R1 E s1 :=
      fun b s1 R1 q => by cases b <;> first | exact wpAny_pure q | exact wpAny_rule q
    have pn := layNew_perm tb xs ((PySem.strKind P w).hash z) (.str z u)
    have fn := layNew_fits tb xs ((PySem.strKind P w).hash z) (.str z u)
    have rn := layNew_ris tb xs ((PySem.strKind P w).hash z) (.str z u) hr
    have ln := layNew_led tb xs ((PySem.strKind P w).hash z) (.str z u)
    generalize layNew tb xs ((PySem.strKind P w).hash z) (.str z u) = Z at pn fn rn ln ⊢
    obtain ⟨ys, tc, wd, gave⟩ := Z
    dsimp only at pn fn rn ln ⊢
    rw [Array.toList_push] at pn
    have pc : ys.toList.Perm (((PySem.strKind P w).hash z, Value.str z u) :: xs.toList) := pn.trans (List.perm_append_singleton _ _)
    have pk : (ys.toList.map tkey).Perm (z :: ks) := (pc.map tkey).trans (pm.cons z)
    have g1 : ∀ e ∈ ys.toList, GoodT P w e := fun e m => by
      rcases List.mem_cons.mp (pc.mem_iff.mp m) with q | q
      · rw [q]; exact ⟨z, u, rfl, rfl⟩
      · exact g e q
    have nd1 : (z :: ks).Nodup := List.nodup_cons.mpr ⟨hout, nd⟩
    have b1 : ys.size < scanBound := by
      have e := pk.length_eq
      rw [List.length_map, Array.length_toList, List.length_cons] at e
      rw [e]; exact room
    have l1 : w.params.followText "set-order" = true ∨ tc.led = true := hl.imp id fun q => by rw [ln]; exact q
    have fin : ∀ h', Heap.SameBut a s.heap h' → TxSet P w h' a (z :: ks) → Q true { s with heap := h' } := fun h' sb r => by
      have q := hQ h' sb (by
        unfold putT
        rw [if_neg hout]
        exact r)
      rw [decide_eq_false hout] at q
      exact q
    refine wpAny_bind (hgv _ ?_)
    split
    · refine wpAny_bind ?_
      rw [hashByValue_scannable 8 hsc]
      refine wpAny_pure ?_
      refine tx_tail ?_ ho hx hd g1 pk nd1 b1 ?_ ?_ ?_ ?_
      · intro b s1 R1 q; cases b <;> first | exact wpAny_pure q | exact wpAny_rule q
      · first | (split <;> first | exact fn | exact SetTable.fits_plain_off fn) | exact fn
      · first | (split <;> exact rn) | exact rn
      · first | (split <;> exact l1) | exact l1
      · intro h' sb r; dsimp only; exact wpAny_pure (fin h' sb r)
    · refine wpAny_bind (wpAny_pure ?_)
      simp only [↓reduceIte]
      refine tx_tail ?_ ho hx hd g1 pk nd1 b1 fn rn l1 ?_
      · intro b s1 R1 q; cases b <;> first | exact wpAny_pure q | exact wpAny_rule q
      · intro h' sb r; dsimp only; exact wpAny_pure (fin h' sb r)
end
end Dw
namespace Dw
open PySem PySem.Spec PyProof.Rows L2 SX
/-- the texts that stand in xs, each once -/
def setL (xs : List Str) : List Str := xs.foldl (fun ks z => putT z ks) []
theorem setL_snoc (xs : List Str) (z : Str) : setL (xs ++ [z]) = putT z (setL xs) := by
  unfold setL
  rw [List.foldl_append]
  rfl
theorem putT_mem {z y : Str} {ks : List Str} : y ∈ putT z ks ↔ y = z ∨ y ∈ ks := by
  unfold putT
  by_cases h : z ∈ ks
  · rw [if_pos h]
    exact ⟨.inr, fun q => q.elim (fun e => e ▸ h) id⟩
  · rw [if_neg h, List.mem_cons]
theorem putT_nodup {z : Str} {ks : List Str} (d : ks.Nodup) : (putT z ks).Nodup := by
  unfold putT
  by_cases h : z ∈ ks
  · rw [if_pos h]; exact d
  · rw [if_neg h]; exact List.nodup_cons.mpr ⟨h, d⟩
theorem putT_len (z : Str) (ks : List Str) : (putT z ks).length ≤ ks.length + 1 := by
  unfold putT
  split
  · exact Nat.le_succ _
  · exact Nat.le_refl _
theorem fold_mem (y : Str) : ∀ (xs ks : List Str), y ∈ xs.foldl (fun ks z => putT z ks) ks ↔ y ∈ ks ∨ y ∈ xs
  | [], ks => by simp
  | x :: xs, ks => by
    rw [List.foldl_cons, fold_mem y xs, putT_mem, List.mem_cons]
    constructor
    · rintro ((h | h) | h)
      · exact .inr (.inl h)
      · exact .inl h
      · exact .inr (.inr h)
    · rintro (h | h | h)
      · exact .inl (.inr h)
      · exact .inl (.inl h)
      · exact .inr h
theorem fold_nodup : ∀ (xs ks : List Str), ks.Nodup → (xs.foldl (fun ks z => putT z ks) ks).Nodup
  | [], _, d => d
  | _ :: xs, _, d => fold_nodup xs _ (putT_nodup d)
theorem fold_len : ∀ (xs ks : List Str), (xs.foldl (fun ks z => putT z ks) ks).length ≤ ks.length + xs.length
  | [], _ => Nat.le_refl _
  | x :: xs, ks => by
    have h1 := fold_len xs (putT x ks)
    have h2 := putT_len x ks
    rw [List.foldl_cons, List.length_cons]
    omega
theorem setL_mem {xs : List Str} {y : Str} : y ∈ setL xs ↔ y ∈ xs := by
  unfold setL
  rw [fold_mem]
  simp
theorem setL_nodup (xs : List Str) : (setL xs).Nodup := fold_nodup xs [] List.nodup_nil
theorem setL_len (xs : List Str) : (setL xs).length ≤ xs.length := by
  have := fold_len xs []
  simpa [setL] using this
section
variable {P : Program} {w : World} {A : Around} {E : Value → Shared → Prop} {s : Shared}
theorem tx_fresh {h : Heap} {a : Addr} (g : h.get? a = some { cls := .type "set", dict := none, data := .set #[] 0 (.fresh 0 0 (!w.params.followText "set-order")) }) : TxSet P w h a [] :=
  ⟨_, #[], 0, _, g, ⟨rfl, rfl, rfl⟩, rfl, (fun e m => by simp at m), List.Perm.refl _, List.nodup_nil, (by decide), (by rfl), List.Pairwise.nil, by
    cases q : w.params.followText "set-order"
    · exact .inr rfl
    · exact .inl rfl⟩
theorem tx_update {I : Addr} {fp wr : List Addr} {G : Array GenState → Array GenState → Prop} {m : Nat} {Pv : Nat → Value → Prop} {St : Nat → Shared → Prop} {R : Result → Shared → Prop}
    (W : WalksS P w A.in1 I fp wr G m Pv St) (D : Addr) (hD : D ∉ fp) (xs : List Str) (hm : m = xs.length) (hb : xs.length + 1 < scanBound) (hval : ∀ i v, Pv i v → ∃ z u, xs[i]? = some z ∧ v = .str z u) :
    ∀ (k i : Nat) (s : Shared), m - i = k → i ≤ m → St i s → TxSet P w s.heap D (setL (xs.take i)) →
      (∀ s', Moved (D :: wr) G s s' → TxSet P w s'.heap D (setL xs) → R (.ok (.ret .none)) s') →
      codeAny (model P w) A (.builtin "set.update.loop" ⟨[.ref D, .ref I], []⟩) R s := by
  have hDw : D ∉ wr := fun q => hD (W.sub _ q)
  have wider : ∀ b ∈ wr, b ∈ D :: wr := fun b q => List.mem_cons_of_mem _ q
  intro k
  induction k with
  | zero =>
    intro i s hk him st set out
    obtain rfl : i = m := by omega
    refine codeAny_builtin F.entry_set_update_loop ?_
    rw [Around.under_plainId F.plain_set_update_loop _]
    show wpAny _ A.in1 (pyNext (.ref I) >>= _) _ _ s
    refine wpAny_bind (W.done s _ _ st fun s2 mv => ?_)
    show wpAny _ A.in1 (ret Value.none) _ _ s2
    rw [List.take_of_length_le (by omega)] at set
    exact wpAny_pure (out s2 (mv.mono wider) (set.at fun ob e => mv.heap D ob hDw e))
  | succ k ih =>
    intro i s hk him st set out
    have lt : i < m := by omega
    refine codeAny_builtin F.entry_set_update_loop ?_
    rw [Around.under_plainId F.plain_set_update_loop _]
    show wpAny _ A.in1 (pyNext (.ref I) >>= _) _ _ s
    refine wpAny_bind (W.item i s _ _ lt st fun v s2 hv st2 mv => ?_)
    obtain ⟨z, u, hz, rfl⟩ := hval i v hv
    have set2 : TxSet P w s2.heap D (setL (xs.take i)) := set.at fun ob e => mv.heap D ob hDw e
    show wpAny _ A.in1 (holding [Value.str z u] (setAdd D (.str z u)) >>= _) _ _ s2
    refine wpAny_bind (wpAny_holding ?_)
    unfold setAdd
    refine wpAny_holding ?_
    refine wpAny_bind ((PySem.strKind P w).pyHash (k := z) (strKind_is _ _ _ _) ?_)
    have hlen : (setL (xs.take i)).length + 1 < scanBound := by
      have q := setL_len (xs.take i)
      rw [List.length_take] at q
      omega
    refine tx_add (s := { s2 with toks := s2.toks + 1 }) set2 hlen fun h3 sb set3 => ?_
    have set4 : TxSet P w h3 D (setL (xs.take (i + 1))) := by
      rw [List.take_add_one, hz]
      show TxSet P w h3 D (setL (xs.take i ++ [z]))
      rw [setL_snoc]
      exact set3
    refine wpAny_pure ⟨plainId_quiet F.plain_set_update_loop _, ih (i + 1) _ (by omega) lt (W.frame _ s2 _ _ st2 (Nat.le_succ _) fun b q ob e => ?_) set4 fun s5 mv5 set5 => ?_⟩
    · rw [sb.2 b (fun z : b = D => hD (by rw [← z]; exact q))]; exact e
    · refine out s5 (Moved.trans W.gtrans ((mv.mono wider).then_heap (Nat.le_succ _) fun b ob q e => ?_) mv5) set5
      rw [sb.2 b (fun z : b = D => q (by rw [z]; exact List.mem_cons_self))]; exact e
end
end Dw
namespace Dw
open PySem PySem.Spec PyProof.Rows L2 SX
section
variable {P : Program} {w : World} {A : Around} {E : Value → Shared → Prop} {s : Shared}
set_option maxHeartbeats 3200000 in
theorem call_set_txt {l : Addr} {its : Array Value} (xs : List Str) {Q : Value → Shared → Prop} (hh : A.handled = none) (hl : s.heap.IsList l its) (hi : StrsAre its.toList xs) (hb : xs.length + 1 < scanBound)
    (out : ∀ (h' : Heap) (tk : Nat), TxSet P w h' s.heap.objs.size (setL xs) → (∀ b u, s.heap.get? b = some u → h'.get? b = some u) → Q (.ref s.heap.objs.size) { s with heap := h', toks := tk }) :
    wpAny (model P w) A (call (.type "set") [.ref l]) Q E s := by
  have isz : its.size = xs.length := by
    have q := StrsAre.len_eq hi
    rw [Array.length_toList] at q
    exact q
  obtain ⟨cc, ctl, mro⟩ := F.called_set.mro
  have made := F.called_set.made
  have subs := F.called_set.sub
  refine wpAny_call (codeAny_of_tree ?_)
  show wpAny _ _ (callAny (.type "set") _) _ _ _
  refine wpAny_pure ⟨Code.quiet_builtin _ (by decide +kernel), codeAny_builtin F.entry_type_call ?_⟩
  rw [Around.under_plain (weight_type_call_type "set" [.ref l] []) rfl]
  have f1 := F.called_set.notType
  have f2 := F.called_set.canCreate
  have f3 := F.typeCall_set_1 (.ref l)
  repeat (any_goals (first | assumption | wp_step))

  refine codeAny_mono (code_set_led1 (.ref l) (E := E) (Q₁ := fun ob s1 => ob = .ref s.heap.objs.size ∧ s1 = { s with heap := s.heap.push (Obj.mk (Value.type "set") none (Data.set #[] 0 (SetTable.fresh 0 0 (!(World.params w).followText "set-order"))) #[]) }) ⟨rfl, rfl⟩) fun r s1 hr => ?_
  cases r with
  | error e => exact hr
  | ok fl =>
    cases fl with
    | ret ob =>
      obtain ⟨rfl, rfl⟩ := hr
      have gS : (s.heap.push (Obj.mk (Value.type "set") none (Data.set #[] 0 (SetTable.fresh 0 0 (!(World.params w).followText "set-order"))) #[])).get? s.heap.objs.size = some (Obj.mk (Value.type "set") none (Data.set #[] 0 (SetTable.fresh 0 0 (!(World.params w).followText "set-order"))) #[]) := Heap.get?_push_size _ rfl
      have tS : Shared.TypeIs { s with heap := s.heap.push (Obj.mk (Value.type "set") none (Data.set #[] 0 (SetTable.fresh 0 0 (!(World.params w).followText "set-order"))) #[]) } (.ref s.heap.objs.size) "set" := ⟨_, gS, rfl⟩
      have li := F.called_set.init.lookup
      have bi := F.called_set.init.bind (.ref s.heap.objs.size)
      repeat (any_goals (first | assumption | wp_step))

      refine codeAny_mono (codeAny_call_builtin (R := wants (fun r s2 => r = .none ∧ ∃ h' tk, s2 = { s with heap := h', toks := tk } ∧ TxSet P w h' s.heap.objs.size (setL xs) ∧
          (∀ b u, s.heap.get? b = some u → h'.get? b = some u)) E) F.called_set.init.plain F.entry_set_init (check_set_init_1 tS ?_)) fun r2 s2 hr2 => ?_
      · obtain ⟨ol, gl, cl, nl, dl⟩ := hl
        obtain ⟨ocls, odict, odata, oslots⟩ := ol
        simp only at cl dl
        subst cl; subst dl
        have gl2 : (s.heap.push (Obj.mk (Value.type "set") none (Data.set #[] 0 (SetTable.fresh 0 0 (!(World.params w).followText "set-order"))) #[])).get? l = some { cls := .type "list", dict := odict, data := .seq its nl, slots := oslots } := Heap.get?_push_of_some _ gl
        have x1 := F.sub_list_set
        have x2 := F.sub_list_frozenset
        have x3 : (Value.type "list" == Value.type "dict") = false := by decide
        have il : (s.heap.push (Obj.mk (Value.type "set") none (Data.set #[] 0 (SetTable.fresh 0 0 (!(World.params w).followText "set-order"))) #[])).IsList l its := ⟨_, gl2, rfl, nl, rfl⟩
        unfold Builtin.«set.__init__» noKeywords Builtin.Frozenset.updateFrom
        generalize hPI : pyIter = PI
        wp_walk
        subst hPI

        refine wpAny_pyIter_list il ?_
        refine wpAny_bind (wpAny_runValue ?_)
        have ll : l < s.heap.objs.size := Heap.lt_size gl
        have h3 : A.in1.in1.in1.handled = none := by simp [hh]
        have nI : l ≠ (s.heap.push (Obj.mk (Value.type "set") none (Data.set #[] 0 (SetTable.fresh 0 0 (!(World.params w).followText "set-order"))) #[])).objs.size := by
          rw [Heap.size_push]; exact Nat.ne_of_lt (Nat.lt_succ_of_lt ll)
        have nF : s.heap.objs.size ∉ [(s.heap.push (Obj.mk (Value.type "set") none (Data.set #[] 0 (SetTable.fresh 0 0 (!(World.params w).followText "set-order"))) #[])).objs.size, l] := by
          rw [Heap.size_push]; simp only [List.mem_cons, List.mem_singleton, List.not_mem_nil, or_false, not_or]
          exact ⟨Nat.ne_of_lt (Nat.lt_succ_self _), Nat.ne_of_gt ll⟩
        have hval : ∀ (i : Nat) (v : Value), its[i]? = some v → ∃ z u, xs[i]? = some z ∧ v = .str z u := fun i v hv => by
          obtain ⟨z, u, e1, e2⟩ := StrsAre.item hi i v (by rw [Array.getElem?_toList]; exact hv)
          exact ⟨z, u, e2, e1⟩
        refine tx_update ((Walks.list h3 _ l nI its).toS) s.heap.objs.size
          nF xs isz hb hval (its.size - 0) 0 _ (by omega) (Nat.zero_le _)
          ⟨⟨_, Heap.get?_push_size _ rfl, rfl, rfl⟩, (il.push _)⟩ ?hS0 ?hR
        case hS0 => exact tx_fresh (Heap.get?_push_of_some _ gS)
        case hR =>
          intro s' mv set
          obtain ⟨h', g2, d', tk', os'⟩ := s'
          obtain rfl : g2 = s.gens := mv.gens
          obtain rfl : d' = s.drawn := mv.drawn
          obtain rfl : os' = s.os := mv.os
          show wpAny _ _ _ _ _ _
          refine wpAny_pure ?_
          show wpAny _ _ (ret Value.none) _ _ _
          refine wpAny_pure ⟨rfl, h', tk', rfl, set, fun b u e => ?_⟩
          have lb : b < s.heap.objs.size := Heap.lt_size e
          have n1 : b ≠ s.heap.objs.size := Nat.ne_of_lt lb
          have n2 : b ≠ (s.heap.push (Obj.mk (Value.type "set") none (Data.set #[] 0 (SetTable.fresh 0 0 (!(World.params w).followText "set-order"))) #[])).objs.size := by
            rw [Heap.size_push]; exact Nat.ne_of_lt (Nat.lt_succ_of_lt lb)
          exact mv.heap b u (by simp only [List.mem_cons, List.mem_singleton, List.not_mem_nil, or_false, not_or]; exact ⟨n1, n2⟩) (Heap.get?_push_of_some _ (Heap.get?_push_of_some _ e))

      · cases r2 with
        | error e => exact hr2
        | ok fl2 =>
          cases fl2 with
          | ret r =>
            obtain ⟨rfl, h', tk, rfl, set, keep⟩ := hr2
            repeat (any_goals (first | assumption | wp_step))
            exact out _ _ set keep
          | _ => exact hr2.elim
    | _ => exact hr.elim
theorem strs_out : ∀ (l : List Value), (∀ v ∈ l, ∃ z u, v = Value.str z u) → StrsAre l (l.map strOf)
  | [], _ => .nil
  | v :: l, h => by
    obtain ⟨z, u, rfl⟩ := h v List.mem_cons_self
    exact .cons z u (strs_out l fun y hy => h y (List.mem_cons_of_mem _ hy))
theorem sorted_txt {a : Addr} {ks : List Str} {Q : Value → Shared → Prop} (R : TxSet P w s.heap a ks) (hh : A.handled = none) (h64 : ks.length < 64)
    (hQ : ∀ s' p (ys : List Str), (∀ b u, s.heap.get? b = some u → s'.heap.get? b = some u) → s'.gens = s.gens → s'.os = s.os → s.heap.objs.size ≤ p →
      (∃ (its : Array Value) (c : Nat), s'.heap.get? p = some (seqObj "list" its c) ∧ StrsAre its.toList ys) → ys.Perm ks → sortedS ys = true → Q (.ref p) s') :
    wpAny (model P w) A (call (.builtin "sorted") [.ref a]) Q E s := by
  obtain ⟨ob, xs, ep, tb, ho, hx, hd, g, pm, nd, hb, hf, hr, hl⟩ := R
  refine Calls.call_function_entry kind_sorted plain_sorted entry_sorted (args_sorted1 _) ?_
  unfold Builtin.«sorted»
  refine wpAny_bind (m := checkCount "sorted" 1 1 _) (wpAny_pure ?_)
  refine wpAny_bind (collect_set (A := A.in1) hh ⟨ob, ho, hx.1, hd⟩ hf hb hr hl fun s1 vs k1 hz g1 o1 pv => ?_)
  have hS : StrsAre vs (vs.map strOf) := strs_out vs fun v hv => by
    obtain ⟨e, he, q⟩ := List.mem_map.mp (pv.mem_iff.mp hv)
    obtain ⟨z, u, e1, _⟩ := g e he
    exact ⟨z, u, by rw [← q]; exact e1⟩
  have pk : (vs.map strOf).Perm ks := by
    have q := pv.map strOf
    rw [List.map_map] at q
    have e : xs.toList.map (strOf ∘ fun x => x.2) = xs.toList.map tkey := List.map_congr_left fun e he => by
      obtain ⟨z, u, e1, _⟩ := g e he
      show strOf e.2 = tkey e
      unfold tkey
      rw [e1]
      rfl
    exact (e ▸ q).trans pm
  have vl : vs.length < 64 := by
    have q := pk.length_eq
    rw [List.length_map] at q
    omega
  refine wpAny_bind (wpAny_newList ?_ (by rw [sizeLine_eq]; omega))
  have gL : (s1.heap.push (seqObj "list" vs.toArray 0)).get? s1.heap.objs.size = some (seqObj "list" vs.toArray 0) := Heap.get?_push_size _ rfl
  refine wpAny_bind (wpAny_holding (wpAny_call_entry slot_list_sort ⟨_, gL, rfl⟩ entry_list_sort (list_sort_treeK strKind_oneLt gL hS.keysOf (fun v1 v2 rest e => keyKind_strs (by rw [← e]; exact hS)) vl fun st hp hs => ⟨_, rfl, ?_⟩) (args_list_sort _)))
  obtain ⟨ys, y1, y2, y3⟩ := sorted_out_str hS hp hs
  obtain ⟨c, hc⟩ := sortedHeap_at (vs := vs) (out := (arrOf st).map (·.2)) gL
  refine wpAny_pure ⟨_, rfl, hQ _ s1.heap.objs.size ys (fun b u e => ?_) g1 o1 hz ⟨_, c, hc, y1⟩ (y2.trans pk) y3⟩
  have q := k1 b u e
  have lt := Heap.lt_size q
  show (sortedHeap (s1.heap.push (seqObj "list" vs.toArray 0)) s1.heap.objs.size vs _).get? b = some u
  rw [sortedHeap_old (Nat.ne_of_lt lt) (by rw [size_push']; exact Nat.lt_succ_of_lt lt)]
  exact Heap.get?_push_of_some _ q
end
/-- at a: a set of texts -/
def SetTx (P : Program) (w : World) (a : Addr) (ks : List Str) : HO := .ext fun h => TxSet P w h a ks
section
variable {X : Cx} (K : PySem.W.Frag)
theorem setTx_new {w : World} {P : Program} {H : Hp} {h : Heap} {a : Addr} {ks : List Str} (R : TxSet P w h a ks) : ObjOk P w H h a (SetTx P w a ks) := by
  have ⟨ob, _, _, _, ho, _⟩ := R
  exact ⟨R, ⟨ob, ho⟩, fun h1 h2 p k => TxSet.at p k⟩
/-- set(a list of texts) -/
def rSetL (K : PySem.W.Frag) (P : Program) (w : World) : List V → Hp → VK → Prop := fun vs H Q => ∃ (l : Addr) (zs : List Str), vs = [.ref l] ∧ SqL K H l (zs.map V.str) ∧ zs.length ≤ 1000 ∧ ∀ p, H p = none → Q (.ref p) (upd H p (SetTx P w p (setL zs)))
theorem setOfL (hc : X.calm = true) (hK : X.K = K := by rfl) : CallR X (.type "set") (rSetL K X.prog X.w) := by
  subst hK
  intro pins s σ H vs us Q I r h
  obtain ⟨l, zs, rfl, hl, hz, q⟩ := h
  obtain ⟨its, rv, il, _⟩ := I.list hl
  rw [Vals.ref1 r]
  refine call_set_txt zs (I.ok.hd hc) il.isList rv.strs (by unfold scanBound; omega) fun h' tk set keep => ?_
  exact ⟨.ref _, _, I.laid (t' := tk) keep (Nat.le_refl _) (setTx_new set), rfl, q _ (I.hok.fresh (Nat.le_refl _))⟩
/-- sorted(a set of texts) -/
def rSortT (P : Program) (w : World) : List V → Hp → VK → Prop := fun vs H Q => ∃ (a : Addr) (ks : List Str), vs = [.ref a] ∧ H a = some (SetTx P w a ks) ∧ ks.length < 64 ∧ ∀ (ys : List Str) (p : Addr), ys.Perm ks → sortedS ys = true → H p = none → Q (.ref p) (upd H p (.lst (ys.map V.str)))
theorem sortT (hc : X.calm = true) : CallR X (.builtin "sorted") (rSortT X.prog X.w) := by
  intro pins s σ H vs us Q I r h
  obtain ⟨a, ks, rfl, ha, h64, q⟩ := h
  rw [Vals.ref1 r]
  refine sorted_txt ((I.hok a _ ha).1 : TxSet X.prog X.w s.heap a ks) (I.ok.hd hc) h64 fun s' p ys keep g o hp hg pm so => ?_
  obtain ⟨its, c, hg, hi⟩ := hg
  have len : (ys.map V.str).length ≤ sizeLine := by rw [List.length_map, pm.length_eq]; exact small (by omega)
  have free : H p = none := I.hok.fresh hp
  have J : Inv X pins σ (upd H p (.lst (ys.map V.str))) { s with heap := s'.heap, gens := s'.gens, drawn := s'.drawn, toks := s'.toks } :=
    I.call (ch := []) (Un.laid keep hp free) (I.hok.laid keep hp ⟨len, its.toList, c, vals_of_strs hi, hg⟩) (by rw [g]; exact I.bare) (fun _ z => nomatch z)
  have e : s' = { s with heap := s'.heap, gens := s'.gens, drawn := s'.drawn, toks := s'.toks } := by
    cases s'
    cases s
    cases o
    rfl
  rw [e]
  exact ⟨.ref p, _, J, rfl, q ys p pm so free⟩
end
end Dw
namespace Dw
open PySem PySem.Spec PyProof.Rows L2 SX
/-! sorted texts: one order alone -/
def leS (a b : Str) : Prop := ¬ (b.cps.toList < a.cps.toList)
theorem leS_trans {a b c : Str} (h1 : leS a b) (h2 : leS b c) : leS a c := List.le_trans (α := Nat) h1 h2
theorem leS_anti {a b : Str} (h1 : leS a b) (h2 : leS b a) : a = b := by
  have e : a.cps.toList = b.cps.toList := List.le_antisymm (α := Nat) h1 h2
  obtain ⟨x⟩ := a
  obtain ⟨y⟩ := b
  exact congrArg Str.mk (Array.toList_inj.mp e)
theorem rising_pw : ∀ (r : List Str) (p : Str), risingS p r = true → (p :: r).Pairwise leS
  | [], p, _ => List.pairwise_singleton _ _
  | x :: r, p, h => by
    unfold risingS at h
    rw [Bool.and_eq_true, ltCps_eq] at h
    have hx : leS p x := by
      have := h.1
      simpa [leS] using this
    have ih := rising_pw r x h.2
    refine List.pairwise_cons.mpr ⟨fun y hy => ?_, ih⟩
    rcases List.mem_cons.mp hy with e | e
    · rw [e]; exact hx
    · exact leS_trans hx ((List.pairwise_cons.mp ih).1 y e)
theorem sorted_pw : ∀ {ys : List Str}, sortedS ys = true → ys.Pairwise leS
  | [], _ => List.Pairwise.nil
  | x :: r, h => rising_pw r x h
theorem pw_sorted {ys : List Str} (h : ys.Pairwise leS) : sortedS ys = true := sortedS_of_pairwise ys (h.imp fun {a b} q => by
  rw [ltCps_eq]
  exact decide_eq_false q)
theorem sorted_one {xs ys : List Str} (p : xs.Perm ys) (h1 : sortedS xs = true) (h2 : sortedS ys = true) : xs = ys :=
  List.Perm.eq_of_pairwise (le := leS) (fun a b _ _ => leS_anti) (sorted_pw h1) (sorted_pw h2) p
open Classical in
/-- the texts in their order, where the order was found -/
noncomputable def srt (ks : List Str) : List Str := if h : ∃ ys : List Str, ys.Perm ks ∧ sortedS ys = true then h.choose else []
theorem srt_of {ks ys : List Str} (p : ys.Perm ks) (s : sortedS ys = true) : ys = srt ks := by
  have h : ∃ ys : List Str, ys.Perm ks ∧ sortedS ys = true := ⟨ys, p, s⟩
  unfold srt
  rw [dif_pos h]
  exact sorted_one (p.trans h.choose_spec.1.symm) s h.choose_spec.2
/-! sums of pairs -/
abbrev Prs := List (Str × Int)
def look (D : Prs) (z : Str) : Option Int := (D.find? fun p => decide (p.1 = z)).map (·.2)
def put (D : Prs) (z : Str) (i : Int) : Prs := if (D.any fun p => decide (p.1 = z)) = true then D.map (fun p => if p.1 = z then (p.1, i) else p) else D ++ [(z, i)]
def ent (p : Str × Int) : Key × V := (Sum.inr p.1, V.int p.2)
theorem val_ent (D : Prs) (z : Str) : valV (D.map ent) (Sum.inr z) = (look D z).map V.int := by
  unfold valV look
  rw [List.find?_map, Option.map_map, Option.map_map]
  have e : ((fun kv : Key × V => decide (kv.1 = Sum.inr z)) ∘ ent) = fun p : Str × Int => decide (p.1 = z) := by
    funext p
    simp [ent]
  rw [e]
  rfl
theorem put_ent (D : Prs) (z : Str) (i : Int) : putK (D.map ent) (Sum.inr z) (V.int i) = (put D z i).map ent := by
  unfold putK put
  rw [List.any_map]
  have e : ((fun kv : Key × V => decide (kv.1 = Sum.inr z)) ∘ ent) = fun p : Str × Int => decide (p.1 = z) := by
    funext p
    simp [ent]
  rw [e]
  split
  · rw [List.map_map, List.map_map]
    apply List.map_congr_left
    intro p _
    show (if (ent p).1 = Sum.inr z then ((ent p).1, V.int i) else ent p) = ent (if p.1 = z then (p.1, i) else p)
    by_cases h : p.1 = z
    · rw [if_pos h, if_pos (by simp [ent, h])]
      rfl
    · rw [if_neg h, if_neg (by simp [ent, h])]
  · rw [List.map_append]
    rfl
def keys (D : Prs) : List Str := D.map (·.1)
theorem put_keys (D : Prs) (z : Str) (i : Int) : keys (put D z i) = if z ∈ keys D then keys D else keys D ++ [z] := by
  unfold put keys
  have e : (D.any fun p => decide (p.1 = z)) = true ↔ z ∈ D.map (·.1) := by
    rw [List.any_eq_true, List.mem_map]
    constructor
    · rintro ⟨p, h, q⟩; exact ⟨p, h, of_decide_eq_true q⟩
    · rintro ⟨p, h, q⟩; exact ⟨p, h, decide_eq_true q⟩
  by_cases h : z ∈ D.map (·.1)
  · rw [if_pos (e.2 h), if_pos h, List.map_map]
    apply List.map_congr_left
    intro p _
    show (if p.1 = z then (p.1, i) else p).1 = p.1
    split <;> rfl
  · rw [if_neg (fun q => h (e.1 q)), if_neg h, List.map_append]
    rfl
def add1 (D : Prs) (p : Str × Int) : Prs := put D p.1 ((look D p.1).getD 0 + p.2)
def sums (ps : Prs) : Prs := ps.foldl add1 []
theorem sums_snoc (ps : Prs) (p : Str × Int) : sums (ps ++ [p]) = add1 (sums ps) p := by
  unfold sums
  rw [List.foldl_append]
  rfl
theorem add1_keys {D : Prs} {p : Str × Int} (nd : (keys D).Nodup) : (keys (add1 D p)).Nodup ∧ (∀ z, z ∈ keys (add1 D p) ↔ z ∈ keys D ∨ z = p.1) ∧ (add1 D p).length ≤ D.length + 1 := by
  have hk := put_keys D p.1 ((look D p.1).getD 0 + p.2)
  have hl : (add1 D p).length = (keys (add1 D p)).length := by simp [keys]
  have hl2 : D.length = (keys D).length := by simp [keys]
  rw [hl, hl2]
  unfold add1
  rw [hk]
  by_cases h : p.1 ∈ keys D
  · rw [if_pos h]
    exact ⟨nd, fun z => ⟨.inl, fun q => q.elim id (fun e => e ▸ h)⟩, Nat.le_succ _⟩
  · rw [if_neg h]
    refine ⟨?_, fun z => ?_, ?_⟩
    · rw [List.nodup_append]
      refine ⟨nd, by simp, fun a ha b hb e => ?_⟩
      rw [List.mem_singleton.mp hb] at e
      exact h (e ▸ ha)
    · rw [List.mem_append, List.mem_singleton]
    · rw [List.length_append]; exact Nat.le_refl _
theorem fold_keys : ∀ (ps D : Prs), (keys D).Nodup → (keys (ps.foldl add1 D)).Nodup ∧ (∀ z, z ∈ keys (ps.foldl add1 D) ↔ z ∈ keys D ∨ z ∈ keys ps) ∧ (ps.foldl add1 D).length ≤ D.length + ps.length
  | [], D, nd => ⟨nd, fun z => by simp [keys], Nat.le_refl _⟩
  | p :: ps, D, nd => by
    obtain ⟨h1, h2, h3⟩ := add1_keys (p := p) nd
    obtain ⟨k1, k2, k3⟩ := fold_keys ps (add1 D p) h1
    refine ⟨k1, fun z => ?_, ?_⟩
    · rw [List.foldl_cons, k2, h2]
      show (z ∈ keys D ∨ z = p.1) ∨ z ∈ keys ps ↔ z ∈ keys D ∨ z ∈ p.1 :: keys ps
      rw [List.mem_cons, or_assoc]
    · rw [List.foldl_cons, List.length_cons]
      omega
theorem sums_keys (ps : Prs) : (keys (sums ps)).Nodup ∧ (∀ z, z ∈ keys (sums ps) ↔ z ∈ keys ps) ∧ (sums ps).length ≤ ps.length := by
  obtain ⟨h1, h2, h3⟩ := fold_keys ps [] List.nodup_nil
  refine ⟨h1, fun z => ?_, by simpa [sums] using h3⟩
  unfold sums
  rw [h2]
  simp [keys]
noncomputable def lin (ps : Prs) : Prs := ((srt (keys (sums ps))).map fun z => (z, (look (sums ps) z).getD 0)).filter fun p => decide (p.2 ≠ 0)
def okC (c : Int) : Bool := decide (-255 ≤ c) && decide (c ≤ 255)
noncomputable def linOk (ps : Prs) (c : Int) : Bool := (c :: (lin ps).map (·.2)).all okC
theorem look_some {D : Prs} {z : Str} (h : z ∈ keys D) : ∃ i, look D z = some i := by
  obtain ⟨p, hp, e⟩ := List.mem_map.mp h
  unfold look
  cases q : D.find? fun p => decide (p.1 = z) with
  | some x => exact ⟨x.2, rfl⟩
  | none =>
    have := List.find?_eq_none.mp q p hp
    simp [e] at this
end Dw
namespace Dw
open PySem PySem.Spec PyProof.Rows L2 SX
theorem hu1 {A : Around} {k : Nat} (hr : Room k A) : A.units + 1 < cLine := by
  have := hr.units
  omega
section
variable {X : Cx} (K : PySem.W.Frag)
theorem allK (hc : X.calm = true := by rfl) (h : X.K = K := by rfl) : CallR X (.builtin "all") (rAll K) := h ▸ cr_all hc
end
theorem getD_int (o : Option Int) (d : Int) : (o.map V.int).getD (V.int d) = V.int (o.getD d) := by cases o <;> rfl
/-! pairs as they stand -/
def PrsAt (H : Hp) : List Addr → Prs → Prop
  | [], [] => True
  | a :: as, p :: ps => H a = some (.tup [.str p.1, .int p.2]) ∧ PrsAt H as ps
  | _, _ => False
theorem PrsAt.same {H H' : Hp} (e : Same H H') : ∀ {as : List Addr} {ps : Prs}, PrsAt H as ps → PrsAt H' as ps
  | [], [], _ => trivial
  | _ :: _, _ :: _, h => ⟨e _ _ h.1, PrsAt.same e h.2⟩
  | [], _ :: _, h => h.elim
  | _ :: _, [], h => h.elim
theorem PrsAt.len {H : Hp} : ∀ {as : List Addr} {ps : Prs}, PrsAt H as ps → as.length = ps.length
  | [], [], _ => rfl
  | _ :: as, _ :: ps, h => congrArg (· + 1) (PrsAt.len (as := as) (ps := ps) h.2)
  | [], _ :: _, h => h.elim
  | _ :: _, [], h => h.elim
theorem PrsAt.append {H : Hp} : ∀ {as bs : List Addr} {ps qs : Prs}, PrsAt H as ps → PrsAt H bs qs → PrsAt H (as ++ bs) (ps ++ qs)
  | [], _, [], _, _, h => h
  | _ :: _, _, _ :: _, _, h, k => ⟨h.1, PrsAt.append h.2 k⟩
  | [], _, _ :: _, _, h, _ => h.elim
  | _ :: _, _, [], _, h, _ => h.elim
theorem PrsAt.snoc {H : Hp} {as : List Addr} {ps : Prs} {a : Addr} {p : Str × Int} (h : PrsAt H as ps) (e : H a = some (.tup [.str p.1, .int p.2])) : PrsAt H (as ++ [a]) (ps ++ [p]) := h.append ⟨e, trivial⟩
theorem PrsAt.get {H : Hp} : ∀ {as : List Addr} {ps : Prs} {i : Nat} {p : Str × Int}, PrsAt H as ps → ps[i]? = some p → ∃ a, as[i]? = some a ∧ H a = some (.tup [.str p.1, .int p.2])
  | [], [], _, _, _, e => by simp at e
  | a :: as, q :: ps, 0, p, h, e => by
    obtain rfl := Option.some.inj e
    exact ⟨a, rfl, h.1⟩
  | a :: as, q :: ps, i + 1, p, h, e => PrsAt.get (as := as) (ps := ps) (i := i) h.2 (by simpa using e)
  | [], _ :: _, _, _, h, _ => h.elim
  | _ :: _, [], _, _, h, _ => h.elim
theorem PrsAt.at {H : Hp} {as : List Addr} {ps : Prs} {i : Nat} {v : V} (h : PrsAt H as ps) (e : (as.map V.ref)[i]? = some v) : ∃ a p, as[i]? = some a ∧ v = .ref a ∧ ps[i]? = some p ∧ H a = some (.tup [.str p.1, .int p.2]) := by
  rw [List.getElem?_map] at e
  obtain ⟨a, ha, rfl⟩ := Option.map_eq_some_iff.mp e
  have hl := h.len
  have hi : i < ps.length := by
    have := (List.getElem?_eq_some_iff.mp ha).1
    omega
  obtain ⟨a2, h2, h3⟩ := h.get (List.getElem?_eq_getElem hi)
  rw [ha] at h2
  obtain rfl := Option.some.inj h2
  exact ⟨a, _, ha, rfl, List.getElem?_eq_getElem hi, h3⟩
theorem PrsAt.keep {H H' : Hp} {g : Addr} (e2 : ∀ x y, H g ≠ some (.tup [.str x, .int y])) (e : But g H H') : ∀ {as : List Addr} {ps : Prs}, PrsAt H as ps → PrsAt H' as ps
  | [], [], _ => trivial
  | _ :: as, _ :: ps, h => ⟨e _ _ (fun q => e2 _ _ (q ▸ h.1)) h.1, PrsAt.keep e2 e (as := as) (ps := ps) h.2⟩
  | [], _ :: _, h => h.elim
  | _ :: _, [], h => h.elim
def prD (p : Str × Int) : PyData := .tuple [.str p.1, .int p.2]
theorem PrsAt.dp {K : PySem.W.Frag} {H : Hp} : ∀ {as : List Addr} {ps : Prs}, PrsAt H as ps → DpAll K H (as.map V.ref) (ps.map prD)
  | [], [], _ => .nil
  | _ :: as, _ :: ps, h => .cons (.tup (SqT.of h.1) (.cons (.str _) (.cons (.int _) .nil))) (PrsAt.dp (as := as) (ps := ps) h.2)
  | [], _ :: _, h => h.elim
  | _ :: _, [], h => h.elim
/-- names of pairs are good -/
def Good (ps : Prs) : Prop := ∀ p ∈ ps, ∃ l, GName l ∧ p.1 = S l
theorem good_lay {z : Str} (h : ∃ l, GName l ∧ z = S l) : PyData.strOk z = true := by
  obtain ⟨l, g, rfl⟩ := h
  exact ok_S fun c hc => ld_128 c (g.all c hc)
theorem prs_lay : ∀ {ps : Prs}, Good ps → PyData.canLayAll0 (ps.map prD) = true ∧ PyData.depthAll (ps.map prD) ≤ 1
  | [], _ => by simp [PyData.canLayAll0, PyData.depthAll]
  | p :: ps, h => by
    obtain ⟨h1, h2⟩ := prs_lay (ps := ps) fun q m => h q (List.mem_cons_of_mem _ m)
    have h3 := good_lay (h p List.mem_cons_self)
    refine ⟨by simp [prD, PyData.canLayAll0, PyData.canLay0, h1, h3], ?_⟩
    simp only [List.map_cons, prD, PyData.depthAll, PyData.depth]
    omega
/-- a term as it stands -/
def TermAt (H : Hp) (t : Addr) (ps : Prs) (c : Int) : Prop := ∃ (q : Addr) (as : List Addr), H t = some (.tup [.ref q, .int c]) ∧ H q = some (.tup (as.map V.ref)) ∧ PrsAt H as ps
theorem TermAt.same {H H' : Hp} {t : Addr} {ps : Prs} {c : Int} (h : TermAt H t ps c) (e : Same H H') : TermAt H' t ps c := by
  obtain ⟨q, as, h1, h2, h3⟩ := h
  exact ⟨q, as, e _ _ h1, e _ _ h2, h3.same e⟩
def tmD (ps : Prs) (c : Int) : PyData := .tuple [.tuple (ps.map prD), .int c]
theorem TermAt.dp {K : PySem.W.Frag} {H : Hp} {t : Addr} {ps : Prs} {c : Int} (h : TermAt H t ps c) : Dp K H (.ref t) (tmD ps c) := by
  obtain ⟨q, as, h1, h2, h3⟩ := h
  exact .tup (SqT.of h1) (.cons (.tup (SqT.of h2) h3.dp) (.cons (.int _) .nil))
theorem tm_shaped {ps : Prs} (h : Good ps) (c : Int) : SeqAt.shaped (tmD ps c) = true := by
  obtain ⟨h1, h2⟩ := prs_lay h
  show (PyData.canLay0 (tmD ps c) && decide (PyData.depth (tmD ps c) ≤ 64)) = true
  rw [Bool.and_eq_true]
  refine ⟨by simp [tmD, PyData.canLay0, PyData.canLayAll0, h1], decide_eq_true ?_⟩
  simp only [tmD, PyData.depth, PyData.depthAll]
  omega
theorem prs_shaped {ps : Prs} (h : Good ps) : SeqAt.shaped (.list (ps.map prD)) = true := by
  obtain ⟨h1, h2⟩ := prs_lay h
  show (PyData.canLay0 (.list (ps.map prD)) && decide (PyData.depth (.list (ps.map prD)) ≤ 64)) = true
  rw [Bool.and_eq_true]
  refine ⟨by simp [PyData.canLay0, h1], decide_eq_true ?_⟩
  simp only [PyData.depth]
  omega
theorem txt_dp {K : PySem.W.Frag} {H : Hp} : ∀ zs : List Str, DpAll K H (zs.map V.str) (zs.map PyData.str)
  | [] => .nil
  | _ :: zs => .cons (.str _) (txt_dp zs)
theorem txt_lay : ∀ zs : List Str, (∀ z ∈ zs, PyData.strOk z = true) → PyData.canLayAll0 (zs.map PyData.str) = true ∧ PyData.depthAll (zs.map PyData.str) = 0
  | [], _ => by simp [PyData.canLayAll0, PyData.depthAll]
  | z :: zs, h => by
    obtain ⟨h1, h2⟩ := txt_lay zs fun y hy => h y (List.mem_cons_of_mem _ hy)
    simp [PyData.canLayAll0, PyData.canLay0, PyData.depthAll, PyData.depth, h z List.mem_cons_self, h1, h2]
theorem txt_shaped (zs : List Str) (h : ∀ z ∈ zs, PyData.strOk z = true) : SeqAt.shaped (.list (zs.map PyData.str)) = true := by
  obtain ⟨h1, h2⟩ := txt_lay zs h
  simp [SeqAt.shaped, PyData.canLay0, PyData.depth, h1, h2]
theorem good_keys {ps : Prs} (h : Good ps) : ∀ z ∈ keys ps, PyData.strOk z = true := fun z hz => by
  obtain ⟨p, hp, rfl⟩ := List.mem_map.mp hz
  exact good_lay (h p hp)
theorem setL_perm {zs : List Str} (d : zs.Nodup) : (setL zs).Perm zs := (List.perm_ext_iff_of_nodup (setL_nodup zs) d).2 fun _ => setL_mem
end Dw
namespace Dw
open PySem PySem.Spec PySem.Calls PyProof.Rows PySem.W
/-! isinstance of a caught error that bears a field -/
section
variable {prog : Program} {w : World} {A : Around} {E : Value → Shared → Prop} {s : Shared} {K : Frag} {b C : Addr} {ob : Obj} {od : Option Obj}
theorem fo_data {n : Str} {a g : Value} (h1 : (clsIn K C).isSome = true) (h2 : findIn K (.ref C) n = some (some a)) (h3 : specialIn K a "__get__" = some (some g)) (h4 : takesIn K a = some true) : findObj K C od n = some (.bind g a) := by
  obtain ⟨cd, h1⟩ := Option.isSome_iff_exists.mp h1
  unfold findObj
  rw [h1, Option.bind_some, h2, Option.bind_some]
  simp [h3, h4]
theorem cls_asked {Q : Option Value → Shared → Prop} (T : L2.ExcC K C) (X : K.In s.heap) (I : InstAt s.heap b ob C od) (h : Q (some (.ref C)) { s with toks := s.toks + 1 }) : wpAny (model prog w) A (getAttr? (.ref b) "__class__") Q E s := by
  have found : findObj K C od "__class__" = some (.bind (.builtin "getset_descriptor.__get__") (.builtin "object.__class__")) :=
    fo_data (by obtain ⟨cd, hc, _⟩ := any_some T.hd; rw [hc]; rfl) T.ha T.hn T.ht
  obtain ⟨h0, gs, dr, tk, os⟩ := s
  have M0 := I.type (M := model prog w)
  have M1 := looks_findIn (M := model prog w) X T.hg
  have M2 := looks_findIn (M := model prog w) X T.hk
  have M3 := looks_find (M := model prog w) X I found
  have isb : Looks (model prog w) h0 (isInstance (.ref b) (.type "BaseException")) true := M0.andThen (looks_subIn X T.hs)
  have e0 : (false && onTheHeap (Value.builtin "BaseException.__getattribute__")) = false := rfl
  have e2 : (Value.builtin "BaseException.__getattribute__" == Value.builtin "object.__getattribute__") = false := by decide +kernel
  have e1 : (onTheHeap (Value.ref C) && Value.builtin "BaseException.__getattribute__" == Value.builtin "object.__getattribute__") = false := by rw [e2]; rfl
  unfold getAttr? getAttrBy? getAttrBy
  refine wpAny_bind (wpAny_mkText (wpAny_bind (wpAny_attempt (wpAny_holding (wpAny_bind (M0.at (wpAny_bind (M1.at ?_))))))))
  show wpAny _ _ (if (onTheHeap (Value.ref C) && Value.builtin "BaseException.__getattribute__" == Value.builtin "object.__getattribute__") = true then _ else _) _ _ _
  rw [e1, if_neg Bool.false_ne_true]
  unfold getAttrByItsOwn hookBefore
  refine wpAny_bind ?_
  rw [if_pos (show onTheHeap (Value.ref C) = true from rfl)]
  refine M2.at ?_
  refine wpAny_bind (wpAny_attempt (wpAny_holding ?_))
  unfold callGetattribute
  rw [e0, if_neg Bool.false_ne_true]
  unfold boundAndCalled
  rw [PySem.F.excAttr_ValueError.ga.bind (.ref b)]
  refine wpAny_bind (wpAny_pure ?_)
  show wpAny _ _ (call (.builtin "BaseException.__getattribute__") [.ref b, .str "__class__" tk]) _ _ _
  refine wpAny_call (codeAny_call_builtin PySem.F.excAttr_ValueError.ga.plain PySem.F.entry_bexc_ga ?_)
  refine @check_slot (model prog w) _ _ ⟨h0, gs, dr, tk + 1, os⟩ "BaseException.__getattribute__" "BaseException" "__getattribute__" (.ref b) [.str "__class__" tk] [] _ (by decide +kernel) (by decide +kernel) isb (PySem.F.args_bexc_ga (.ref b) (.str "__class__" tk)) ?_
  unfold Builtin.«object.__getattribute__»
  refine wpAny_bind (wpAny_of_eq (a := ((Value.ref b : Value), [Value.str "__class__" tk])) (by first | rfl | (simp only [slotArgs]; rfl)) ?_)
  refine wpAny_bind (wpAny_pure (wpAny_bind (M0.at (wpAny_bind (M3.at ?_)))))
  show wpAny _ _ (holding [Value.builtin "object.__class__"] (call (.builtin "getset_descriptor.__get__") [.builtin "object.__class__", .ref b, .ref C]) >>= ret) _ _ _
  refine wpAny_bind (wpAny_holding (wpAny_call (class_get (s := ⟨h0, gs, dr, tk + 1, os⟩) (ox := ob) (od := od) X I T.hm ?_)))
  refine wpAny_pure ?_
  show wpAny _ _ (handedOut (.ref C)) _ _ _
  rw [handedOut_of (v := .ref C) rfl]
  first
    | exact wpAny_pure (wpAny_pure h)
    | exact wpAny_pure h
    | exact wpAny_pure (wpAny_bind (wpAny_pure (wpAny_pure h)))
theorem kitx_of (T : L2.ExcC K C) : KitX K (.ref b) (.ref C) (fun h => InstAt h b ob C od) where
  ty := fun _ _ _ I => I.type
  it := fun _ _ X _ => by
    obtain ⟨cd, hc, _⟩ := any_some T.hd
    unfold clsIn at hc
    split at hc
    · rename_i c1 d1 cd1 sl1 ho
      intro A1 Q1 E1 s1 k q
      unfold isType loadHead
      exact wpAny_bind (wpAny_loadPart (k _ _ (X _ _ ho)) (wpAny_pure q))
    · cases hc
  ne := fun h tp dd its n sl X htp => by
    obtain ⟨cd, hc, _⟩ := any_some T.hd
    refine Bool.eq_false_iff.mpr fun q => ?_
    obtain rfl : C = tp := Value.ref.inj (beq_iff_eq.mp q)
    unfold clsIn at hc
    split at hc
    · rename_i c1 d1 cd1 sl1 ho
      have z := (X _ _ ho).symm.trans htp
      cases z
    · cases hc
  ca := fun X I k => cls_asked T X I k
end
open L2
/-- isinstance(e, c), e the caught error of class C with its own dict at d -/
def rIsF (K : PySem.W.Frag) (C a : Addr) (cls : Value) (d : Option Addr) : List V → Hp → VK → Prop := fun xs H Q => ∃ (c : V) (cv : Value) (b : Bool) (dd : Addr) (fs : List (Str × V)), xs = [.ref a, c] ∧ (∀ u, RelV c u → u = cv) ∧ cls = .ref C ∧ d = some dd ∧ H dd = some (.xd fs) ∧ PySem.W.kitOne K (.ref C) cv = some b ∧ Q (.bl b) H
theorem call_isF {X : Cx} {a C : Addr} {oe : Obj} {cls : Value} {d : Option Addr} {pn : List (Addr × Obj)} (T : ExcC X.K C) (hz : Zc cls d oe) (hf : ∃ vs, oe.data = .fields vs) : CallR (X.suite a ((a, oe) :: pn)) (.builtin "isinstance") (rIsF X.K C a cls d) := by
  intro pins s σ H xs us Q I r h
  obtain ⟨c, cv, b, dd, fs, rfl, hcv, rfl, rfl, hdd, e, q⟩ := h
  obtain ⟨u1, r1, rfl, ra, rr⟩ : ∃ u1 r1, us = u1 :: r1 ∧ RelV (.ref a) u1 ∧ Vals [c] r1 := by
    cases r with
    | cons h1 h2 => exact ⟨_, _, rfl, h1, h2⟩
  obtain ⟨u2, rfl, rc⟩ := vals1 rr
  obtain rfl : u1 = Value.ref a := ra
  obtain rfl := hcv _ rc
  obtain ⟨gt, _⟩ := I.pin (a, oe) (List.mem_append_left _ List.mem_cons_self)
  obtain ⟨vs, hv⟩ := hf
  have ok : ObjOk X.prog X.w H s.heap dd (.xd fs) := I.hok dd _ hdd
  obtain ⟨mA, ns, _⟩ := ok
  obtain ⟨od, ho, _⟩ := lookIn_ns ns
  have J : PySem.W.InstAt s.heap a oe C (some od) := ⟨gt, hz.1, by unfold PySem.W.notCls; rw [hv] <;> rfl, by rw [hz.2]; exact ho⟩
  exact PySem.W.kia_one (kitx_of T) I.kIn J e (fun z => nomatch z) fun tk => ⟨.bl b, H, I.kept (t' := tk) fun _ _ z => z, rfl, q⟩
/-- a call that lets nothing out, of a def that may -/
theorem passF {X : Cx} {P : Program} {w : World} : Passes (L2.CX P w) X C8.E0 := fun _ _ _ _ _ _ _ h => by
  obtain ⟨_, _, _, _, _, _, _, _, _, _, _, _, e⟩ := h
  exact e.elim
end Dw
namespace Dw
open PySem PySem.Spec PyProof.Rows L2 SX
/-- what linear and the law's own sum answer: the term, or the word -/
def OVER : V := .str (S (cs "oversized"))
def Res (H : Hp) (v : V) (ps : Prs) (c : Int) : Prop := (linOk ps c = true ∧ ∃ t, v = .ref t ∧ TermAt H t (lin ps) c) ∨ (linOk ps c = false ∧ v = OVER)
theorem Res.same {H H' : Hp} {v : V} {ps : Prs} {c : Int} (h : Res H v ps c) (e : Same H H') : Res H' v ps c := by
  rcases h with ⟨a, t, b, d⟩ | h
  · exact .inl ⟨a, t, b, d.same e⟩
  · exact .inr h
theorem res_split {H : Hp} {Q : VK} {ps : Prs} {c : Int} (h : ∀ v H', Same H H' → Res H' v ps c → Q v H') :
    (linOk ps c = true → ∀ t H', Same H H' → TermAt H' t (lin ps) c → Q (.ref t) H') ∧ (linOk ps c = false → ∀ H', Same H H' → Q (.str (S (cs "oversized"))) H') :=
  ⟨fun o t H' e x => h _ H' e (.inl ⟨o, t, rfl, x⟩), fun o H' e => h _ H' e (.inr ⟨o, rfl⟩)⟩
theorem over_ok : PyData.strOk (S (cs "oversized")) = true := ok_S (kinds2_128' "oversized" (by simp))
where kinds2_128' : ∀ s ∈ (["oversized"] : List String), ∀ c ∈ cs s, c < 128 := by decide +kernel
theorem str_shaped {z : Str} (h : PyData.strOk z = true) : SeqAt.shaped (.str z) = true := by
  simp [SeqAt.shaped, PyData.canLay0, PyData.depth, h]
/-- two answers over the same pairs are equal, as data -/
theorem Res.two {K : PySem.W.Frag} {H : Hp} {v w : V} {ps : Prs} {c : Int} (h : Res H v ps c) (k : Res H w ps c) (g : Good (lin ps)) : ∃ d, Dp K H v d ∧ Dp K H w d ∧ SeqAt.shaped d = true := by
  rcases h with ⟨a, t, rfl, ht⟩ | ⟨a, rfl⟩
  · rcases k with ⟨_, u, rfl, hu⟩ | ⟨b, _⟩
    · exact ⟨_, ht.dp, hu.dp, tm_shaped g c⟩
    · rw [a] at b; cases b
  · rcases k with ⟨b, _⟩ | ⟨_, rfl⟩
    · rw [a] at b; cases b
    · exact ⟨_, .str _, .str _, str_shaped over_ok⟩
theorem srt_spec (K : List Str) : srt K = [] ∨ ((srt K).Perm K ∧ sortedS (srt K) = true) := by
  unfold srt
  split
  · rename_i h
    exact .inr h.choose_spec
  · exact .inl rfl
theorem lin_sub (ps : Prs) : (keys (lin ps)).Sublist (srt (keys (sums ps))) := by
  have h1 := (List.filter_sublist (p := fun p : Str × Int => decide (p.2 ≠ 0)) (l := (srt (keys (sums ps))).map fun z => (z, (look (sums ps) z).getD 0))).map (·.1)
  rw [List.map_map] at h1
  have e : (srt (keys (sums ps))).map ((fun x : Str × Int => x.1) ∘ fun z => (z, (look (sums ps) z).getD 0)) = srt (keys (sums ps)) := by
    show (srt (keys (sums ps))).map (fun z => z) = _
    rw [List.map_id']
  rw [e] at h1
  exact h1
theorem lin_mem {ps : Prs} {z : Str} (h : z ∈ keys (lin ps)) : z ∈ keys ps := by
  have h1 := (lin_sub ps).subset h
  rcases srt_spec (keys (sums ps)) with e | ⟨e, _⟩
  · rw [e] at h1; cases h1
  · exact ((sums_keys ps).2.1 z).1 (e.mem_iff.mp h1)
theorem lin_good {ps : Prs} (h : Good ps) : Good (lin ps) := fun p hp => by
  have h1 : p.1 ∈ keys ps := lin_mem (List.mem_map_of_mem hp)
  obtain ⟨q, hq, e⟩ := List.mem_map.mp h1
  rw [← e]
  exact h q hq
theorem lin_len (ps : Prs) : (lin ps).length ≤ ps.length := by
  have h1 := (lin_sub ps).length_le
  have h2 : (keys (lin ps)).length = (lin ps).length := by simp [keys]
  have h3 := (sums_keys ps).2.2
  have h4 : (keys (sums ps)).length = (sums ps).length := by simp [keys]
  rcases srt_spec (keys (sums ps)) with e | ⟨e, _⟩
  · rw [e] at h1
    rw [List.length_nil] at h1
    omega
  · rw [e.length_eq] at h1
    omega
theorem lin_sorted (ps : Prs) : sortedS (keys (lin ps)) = true ∧ (keys (lin ps)).Nodup := by
  rcases srt_spec (keys (sums ps)) with e | ⟨e, s⟩
  · have h1 := lin_sub ps
    rw [e] at h1
    rw [List.sublist_nil.mp h1]
    exact ⟨rfl, List.nodup_nil⟩
  · exact ⟨pw_sorted ((sorted_pw s).sublist (lin_sub ps)), (e.nodup_iff.mpr (sums_keys ps).1).sublist (lin_sub ps)⟩
theorem lin_nz {ps : Prs} {p : Str × Int} (h : p ∈ lin ps) : p.2 ≠ 0 := by
  unfold lin at h
  exact of_decide_eq_true (List.mem_filter.mp h).2
theorem linOk_of {ps : Prs} {c : Int} (h : linOk ps c = true) : okC c = true ∧ ∀ p ∈ lin ps, okC p.2 = true := by
  unfold linOk at h
  rw [List.all_cons, Bool.and_eq_true, List.all_eq_true] at h
  exact ⟨h.1, fun p hp => h.2 _ (List.mem_map_of_mem hp)⟩
theorem okC_bd {c : Int} (h : okC c = true) : -255 ≤ c ∧ c ≤ 255 := by
  simpa [okC] using h
theorem good_app {a b : Prs} (h : Good a) (k : Good b) : Good (a ++ b) := fun p hp => by
  rcases List.mem_append.mp hp with q | q
  · exact h p q
  · exact k p q
theorem good_map {a : Prs} {f : Str × Int → Str × Int} (h : Good a) (k : ∀ p, (f p).1 = p.1) : Good (a.map f) := fun p hp => by
  obtain ⟨q, hq, rfl⟩ := List.mem_map.mp hp
  rw [k]
  exact h q hq
/-- values of a table of names -/
def NamesT (kvs : List (Key × V)) : Prop := ∀ kv ∈ kvs, ∃ l, GName l ∧ kv.2 = .str (S l)
theorem putK_names {kvs : List (Key × V)} {k : Key} {l : List Nat} (h : NamesT kvs) (g : GName l) : NamesT (putK kvs k (.str (S l))) := by
  intro kv hkv
  unfold putK at hkv
  split at hkv
  · obtain ⟨x, hx, rfl⟩ := List.mem_map.mp hkv
    by_cases e : x.1 = k
    · rw [if_pos e]; exact ⟨l, g, rfl⟩
    · rw [if_neg e]; exact h x hx
  · rcases List.mem_append.mp hkv with q | q
    · exact h kv q
    · rw [List.mem_singleton.mp q]; exact ⟨l, g, rfl⟩
def renF (kvs : List (Key × V)) (z : Str) : Str := match valV kvs (Sum.inr z) with | some (.str y) => y | _ => z
theorem renF_ok {kvs : List (Key × V)} (h : NamesT kvs) (z : Str) : (valV kvs (Sum.inr z)).getD (.str z) = .str (renF kvs z) ∧ ((∃ l, GName l ∧ z = S l) → ∃ l, GName l ∧ renF kvs z = S l) := by
  unfold renF valV
  cases e : kvs.find? fun kv => decide (kv.1 = (Sum.inr z : Key)) with
  | none => exact ⟨rfl, fun q => q⟩
  | some kv =>
    obtain ⟨l, g, q⟩ := h kv (List.mem_of_find?_eq_some e)
    simp only [Option.map_some, q]
    exact ⟨rfl, fun _ => ⟨l, g, rfl⟩⟩
theorem look_none {D : Prs} {z : Str} (h : z ∉ keys D) : (D.any fun p => decide (p.1 = z)) = false ∧ (D.find? fun p => decide (p.1 = z)) = none := by
  have hn : ∀ p ∈ D, ¬ p.1 = z := fun p hp e => h (e ▸ List.mem_map_of_mem hp)
  refine ⟨?_, List.find?_eq_none.mpr fun p hp => by simp [hn p hp]⟩
  rw [List.any_eq_false]
  exact fun p hp => by simp [hn p hp]
theorem put_new {D : Prs} {z : Str} {i : Int} (h : z ∉ keys D) : put D z i = D ++ [(z, i)] := by
  unfold put
  rw [(look_none h).1, if_neg (by decide)]
theorem look_new {D : Prs} {z : Str} {i : Int} (h : z ∉ keys D) : look (D ++ [(z, i)]) z = some i := by
  unfold look
  rw [List.find?_append, (look_none h).2]
  simp
theorem look_old {D : Prs} {z y : Str} {i : Int} (h : y ∈ keys D) : look (D ++ [(z, i)]) y = look D y := by
  obtain ⟨v, hv⟩ := look_some h
  have hv2 := hv
  unfold look at hv ⊢
  rw [List.find?_append]
  cases e : D.find? fun p => decide (p.1 = y) with
  | none => rw [e] at hv; cases hv
  | some x => rfl
theorem nodup_take {l : List Str} {i : Nat} {z : Str} (nd : l.Nodup) (h : l[i]? = some z) : z ∉ l.take i := by
  intro hz
  have e : l = l.take i ++ l.drop i := (List.take_append_drop i l).symm
  rw [e, List.nodup_append] at nd
  have hd : z ∈ l.drop i := by
    have : (l.drop i)[0]? = some z := by
      rw [List.getElem?_drop]
      exact h
    exact List.mem_of_getElem? this
  exact nd.2.2 z hz z hd rfl
end Dw
namespace K02
open PySem PySem.Spec PyProof.Rows L2 SX Dw
def topS (i : Nat) : Stmt := PySem.Challenge.pw_digitwise_k02_terms.main.body.getD i (.Pass ⟨0, 0, 0, 0⟩)
abbrev s_is_name : Stmt := topS 10
abbrev N_is_name : List Str := ["value"]
theorem sc_is_name : FnScope N_is_name ["value"] (C8.fnScope s_is_name) := C8.fnScope_by (by decide +kernel)
abbrev s_is_run : Stmt := topS 11
abbrev N_is_run : List Str := ["value", "letters"]
theorem sc_is_run : FnScope N_is_run ["value", "letters"] (C8.fnScope s_is_run) := C8.fnScope_by (by decide +kernel)
abbrev s_run_end : Stmt := topS 12
abbrev N_run_end : List Str := ["text", "at", "characters"]
theorem sc_run_end : FnScope N_run_end ["text", "at", "characters"] (C8.fnScope s_run_end) := C8.fnScope_by (by decide +kernel)
abbrev s_stands_at : Stmt := topS 13
abbrev N_stands_at : List Str := ["text", "at", "characters"]
theorem sc_stands_at : FnScope N_stands_at ["text", "at", "characters"] (C8.fnScope s_stands_at) := C8.fnScope_by (by decide +kernel)
abbrev s_linear : Stmt := topS 16
abbrev N_linear : List Str := ["pairs", "constant", "sums", "name", "coefficient", "kept", "coefficients", "pair", "number"]
theorem sc_linear : FnScope N_linear ["pairs", "constant"] (C8.fnScope s_linear) := C8.fnScope_by (by decide +kernel)
abbrev s_plus : Stmt := topS 17
abbrev N_plus : List Str := ["one", "two"]
theorem sc_plus : FnScope N_plus ["one", "two"] (C8.fnScope s_plus) := C8.fnScope_by (by decide +kernel)
abbrev s_minus : Stmt := topS 18
abbrev N_minus : List Str := ["one", "two", "negatives", "name", "coefficient"]
theorem sc_minus : FnScope N_minus ["one", "two"] (C8.fnScope s_minus) := C8.fnScope_by (by decide +kernel)
abbrev s_times : Stmt := topS 19
abbrev N_times : List Str := ["factor", "term", "pairs", "constant", "name", "coefficient"]
theorem sc_times : FnScope N_times ["factor", "term"] (C8.fnScope s_times) := C8.fnScope_by (by decide +kernel)
abbrev s_value : Stmt := topS 20
abbrev N_value : List Str := ["term", "numbers", "pairs", "total", "name", "coefficient"]
theorem sc_value : FnScope N_value ["term", "numbers"] (C8.fnScope s_value) := C8.fnScope_by (by decide +kernel)
abbrev s_is_term : Stmt := topS 21
abbrev N_is_term : List Str := ["value", "pairs", "constant", "names", "pair"]
theorem sc_is_term : FnScope N_is_term ["value"] (C8.fnScope s_is_term) := C8.fnScope_by (by decide +kernel)
abbrev s_is_pair : Stmt := topS 22
abbrev N_is_pair : List Str := ["value"]
theorem sc_is_pair : FnScope N_is_pair ["value"] (C8.fnScope s_is_pair) := C8.fnScope_by (by decide +kernel)
abbrev s_is_coefficient : Stmt := topS 23
abbrev N_is_coefficient : List Str := ["value"]
theorem sc_is_coefficient : FnScope N_is_coefficient ["value"] (C8.fnScope s_is_coefficient) := C8.fnScope_by (by decide +kernel)
abbrev s_in_range : Stmt := topS 24
abbrev N_in_range : List Str := ["number"]
theorem sc_in_range : FnScope N_in_range ["number"] (C8.fnScope s_in_range) := C8.fnScope_by (by decide +kernel)
abbrev s_rename_term : Stmt := topS 25
abbrev N_rename_term : List Str := ["term", "names", "pairs", "constant", "name", "coefficient"]
theorem sc_rename_term : FnScope N_rename_term ["term", "names"] (C8.fnScope s_rename_term) := C8.fnScope_by (by decide +kernel)
abbrev s__law_wide : Stmt := topS 27
abbrev N__law_wide : List Str := ["script", "k", "cell", "mixed"]
theorem sc__law_wide : FnScope N__law_wide ["script", "k"] (C8.fnScope s__law_wide) := C8.fnScope_by (by decide +kernel)
abbrev s__law_take : Stmt := topS 28
abbrev N__law_take : List Str := ["pool", "most", "taken"]
theorem sc__law_take : FnScope N__law_take ["pool", "most"] (C8.fnScope s__law_take) := C8.fnScope_by (by decide +kernel)
abbrev s__law_pool : Stmt := topS 29
abbrev N__law_pool : List Str := ["script"]
theorem sc__law_pool : FnScope N__law_pool ["script"] (C8.fnScope s__law_pool) := C8.fnScope_by (by decide +kernel)
abbrev s__law_reserved : Stmt := topS 30
abbrev N__law_reserved : List Str := []
theorem sc__law_reserved : FnScope N__law_reserved [] (C8.fnScope s__law_reserved) := C8.fnScope_by (by decide +kernel)
abbrev s__law_signs : Stmt := topS 31
abbrev N__law_signs : List Str := ["first"]
theorem sc__law_signs : FnScope N__law_signs [] (C8.fnScope s__law_signs) := C8.fnScope_by (by decide +kernel)
abbrev s__law_name : Stmt := topS 32
abbrev N__law_name : List Str := ["pool", "letters", "name", "k"]
theorem sc__law_name : FnScope N__law_name ["pool"] (C8.fnScope s__law_name) := C8.fnScope_by (by decide +kernel)
abbrev s__law_word : Stmt := topS 33
abbrev N__law_word : List Str := ["pool", "letters", "name", "k"]
theorem sc__law_word : FnScope N__law_word ["pool"] (C8.fnScope s__law_word) := C8.fnScope_by (by decide +kernel)
abbrev s__law_joins : Stmt := topS 34
abbrev N__law_joins : List Str := ["left", "right", "sign"]
theorem sc__law_joins : FnScope N__law_joins ["left", "right"] (C8.fnScope s__law_joins) := C8.fnScope_by (by decide +kernel)
abbrev s__law_space : Stmt := topS 35
abbrev N__law_space : List Str := ["pool", "needed", "space"]
theorem sc__law_space : FnScope N__law_space ["pool", "needed"] (C8.fnScope s__law_space) := C8.fnScope_by (by decide +kernel)
abbrev s__law_text : Stmt := topS 36
abbrev N__law_text : List Str := ["pool", "parts", "text", "places", "k"]
theorem sc__law_text : FnScope N__law_text ["pool", "parts"] (C8.fnScope s__law_text) := C8.fnScope_by (by decide +kernel)
abbrev s__law_sum : Stmt := topS 37
abbrev N__law_sum : List Str := ["pairs", "constant", "sums", "pair", "kept", "number", "name"]
theorem sc__law_sum : FnScope N__law_sum ["pairs", "constant"] (C8.fnScope s__law_sum) := C8.fnScope_by (by decide +kernel)
abbrev s__law_told : Stmt := topS 38
abbrev N__law_told : List Str := ["which", "one", "two", "e"]
theorem sc__law_told : FnScope N__law_told ["which", "one", "two"] (C8.fnScope s__law_told) := C8.fnScope_by (by decide +kernel)
abbrev s__law_list : Stmt := topS 39
abbrev N__law_list : List Str := ["pool", "names", "pairs", "k", "number"]
theorem sc__law_list : FnScope N__law_list ["pool", "names"] (C8.fnScope s__law_list) := C8.fnScope_by (by decide +kernel)
abbrev s__law_missing : Stmt := topS 40
abbrev N__law_missing : List Str := ["term", "numbers", "e"]
theorem sc__law_missing : FnScope N__law_missing ["term", "numbers"] (C8.fnScope s__law_missing) := C8.fnScope_by (by decide +kernel)
abbrev s_law : Stmt := topS 41
abbrev N_law : List Str := ["script", "pool", "names", "first", "second", "constants", "given", "one", "two", "factor", "renaming", "pair", "negative", "numbers", "due", "k"]
theorem sc_law : FnScope N_law ["script"] (C8.fnScope s_law) := C8.fnScope_by (by decide +kernel)
local macro_rules | `(tactic| walk_at "rd") => `(tactic| simp only [tSeq, tNext, tAsg, gName, tRet, tRetN, tIfS, tDrop, tVar, tC, tOp, tUn, tTest, tCB, tCons, tNil, tB, tAnd, tOr, tNot, tAndV, tOrV, tNotV, tIf, tCall, tTup, tLst, tSl, tPart, tNoPart, tM0, tM1, tBM, tChain, tBreak, tCont, tNever, tAug, ipI, tPar, tyV_str,
  tFor_eq, tLc_eq, tMkO, tYes, wipe, ofStr_S, S_cat, one_S, len_S, S_iff, S_cps, Int.zero_add, gNil, gCons, gTup, gSub, iRng1, iRng2, iList, iTup, iStr, rI0, rI, rU, rEq, rNe, rIxL, rIxT, rIxS, Dw.rLen, rListOf, rTupOf, rNotB, rIsB, rMulS, rIn, rCat, rAppend, rCatA, rEqD, rNeD, C8.rSlX, tDGet, tDGet2, tDIn, tDNotIn, rSetD, rAll, Dw.rSetL, rSortT, StX.tStar, tDNewK, tDisp, tPairs, L2.start, cxOf_K, cxOf_w, cxOf_prog,
  List.map_cons, List.map_nil, List.length_cons, List.length_nil, List.replicate, List.cons_append, List.nil_append, Nat.reduceAdd, Nat.reduceSub, Nat.zero_add, List.append_nil,
  List.set_cons_zero, List.set_cons_succ, List.getElem?_cons_zero, List.getElem?_cons_succ, Option.some.injEq, V.int.injEq, V.bl.injEq, V.ref.injEq, V.str.injEq, V.ty.injEq, List.cons.injEq, and_true, true_and, reduceCtorEq, false_and, exists_false, or_false, false_or, exists_eq_left, exists_eq_left', exists_eq', sw_S, an_S, exists_and_left, exists_const, exists_eq, decide_eq_true_eq, Bool.false_eq_true, if_true, if_false, Bool.not_eq_true', decide_eq_false_iff_not, Bool.not_true, Bool.not_false, ite_not, scal, and_false])
section
variable {P : Program} {w : World} {K : PySem.W.Frag} {mg : Str → Option Value} {base : Heap}
def sp_wide (K : PySem.W.Frag) : Sp := fun vs H Q _ => ∃ (q : Addr) (ns : List Int) (k : Int), vs = [.ref q, .int k] ∧ SqL K H q (ns.map V.int) ∧ 0 ≤ k ∧ ∀ r : Int, 0 ≤ r → Q (.int r) H
theorem c__law_wide {f : Addr} {fd : FuncData} (D : C8.Def K mg "_law_wide" s__law_wide f fd) (b : Binds K fd ["script", "k"] []) (z_len : mg "len" = none) (z_abs : mg "abs" = none) (z_int : mg "int" = none) : C8.Cal P w K mg base 1 "_law_wide" (sp_wide K) [] := by
  refine C8.cal0 D b .nil sc__law_wide (fun vs H Q E h => ?_) (fun cdv A outer s H vs Q E hr h => ?_)
  · obtain ⟨_, _, _, rfl, _⟩ := h
    rfl
  · obtain ⟨q, ns, k, rfl, hS, hk, ok⟩ := h
    refine ⟨_, (pss_cons (ps_set (i := 2) sc__law_wide.nd rfl (by first | exact Or.inl rfl | exact Or.inr rfl) pe_int) (C8.pss_cut (ps_if (pt_cmpR (op_lt) (pv 1) (pe_callB (lenS K) (by rfl) z_len PySem.boot_len (pa_cons (pv 0) pa_nil)) (nomark _)) (pss_one (ps_set (i := 2) sc__law_wide.nd rfl (by first | exact Or.inl rfl | exact Or.inr rfl) (pe_callB call_abs (by rfl) z_abs (by decide +kernel) (pa_cons (pe_ix (ixL K) (pv 0) (pv 1) (fun _ _ => rfl)) pa_nil)))) pss_nil) (pss_cons (ps_if (pt_cmpR (op_ge) (pv 2) pe_int (nomark _)) (pss_one (ps_ret (pv 2))) pss_nil) (pss_cons (ps_set (i := 3) sc__law_wide.nd rfl (by first | exact Or.inl rfl | exact Or.inr rfl) (pe_op op_mod (pe_callTy call_int1 (by rfl) z_int (by decide +kernel) (pa_cons (pe_op op_add (pe_op op_mul (pe_op op_add (pv 2) pe_int) pe_int) (pe_op op_mul (pe_op op_add (pv 1) pe_int) pe_int)) pa_nil)) pe_int)) (pss_one (ps_ret (pe_op op_mod (pe_callTy call_int1 (by rfl) z_int (by decide +kernel) (pa_cons (pe_op op_add (pe_op op_mul (pv 3) pe_int) (pe_op op_fdiv (pv 3) pe_int)) pa_nil)) pe_int))))))), ?_⟩
    walk_at "rd"
    obtain ⟨M, hM⟩ : ∃ M : L2.St → Hp → Prop, M = fun σ' H' => ∃ c : Int, 0 ≤ c ∧ σ' = [some (.ref q), some (.int k), some (.int c), none] ∧ H' = H := ⟨_, rfl⟩
    refine ⟨M, ?_, fun σ' H' hm => ?_⟩
    · walk_at "rd"
      refine ⟨_, .inl hS, ite2 (fun h1 => ?_) (fun h1 => ?_)⟩
      · rw [List.length_map] at h1
        refine ⟨_, hS, .int (ns.getD k.toNat 0), at_ints hk h1, ns.getD k.toNat 0, rfl, ?_⟩
        rw [hM]
        exact ⟨_, by split <;> omega, rfl, rfl⟩
      · rw [hM]
        exact ⟨0, Int.le_refl 0, rfl, rfl⟩
    · rw [hM] at hm
      obtain ⟨c, hc, rfl, rfl⟩ := hm
      walk_at "rd"
      refine ite2 (fun _ => ok c hc) (fun _ => ⟨.inr ⟨by decide, by decide⟩, .inr ⟨by decide, by decide⟩, by decide, .inr ⟨by decide, by decide⟩, ⟨by decide, by decide⟩, by decide, ok _ ?_⟩)
      exact Int.emod_nonneg _ (by decide)

def sp_take : Sp := fun vs H Q _ => ∃ (p q : Addr) (ns : List Int) (m : Int), vs = [.ref p, .int m] ∧ Pool H p q ns ∧ 0 < m ∧ m < 1073741824 ∧ ∀ (r : Int) H', 0 ≤ r → r < m → But p H H' → Pool H' p q ns → Q (.int r) H'
theorem c__law_take {f : Addr} {fd : FuncData} (D : C8.Def K mg "_law_take" s__law_take f fd) (b : Binds K fd ["pool", "most"] []) (z_int : mg "int" = none) (c__law_wide : C8.Cal P w K mg base 1 "_law_wide" (sp_wide K) []) : C8.Cal P w K mg base 2 "_law_take" sp_take [] := by
  refine C8.cal0 D b .nil sc__law_take (fun vs H Q E h => ?_) (fun cdv A outer s H vs Q E hr h => ?_)
  · obtain ⟨_, _, _, _, rfl, _⟩ := h
    rfl
  · obtain ⟨p, q, ns, m, rfl, ⟨hne, hq, a, k, hp, ha, hk⟩, hm0, hm1, ok⟩ := h
    refine ⟨_, (C8.pss_cut (ps_if (pt_cmpR (op_lt) (pe_ix (ixL K) (pv 0) pe_int (fun _ _ => rfl)) pe_int (nomark _)) (pss_cons (ps_asg (pe_op op_add (pe_ix (ixL K) (pv 0) pe_int (fun _ _ => rfl)) pe_int) (pg_sub (pv 0) pe_int set_list)) (pss_one (ps_asg (C8.pe_c c__law_wide hr (by decide) (by rfl) (pa_cons (pe_ix (ixL K) (pv 0) pe_int (fun _ _ => rfl)) (pa_cons (pe_ix (ixL K) (pv 0) pe_int (fun _ _ => rfl)) pa_nil))) (pg_sub (pv 0) pe_int set_list)))) pss_nil) (pss_cons (ps_set (i := 2) sc__law_take.nd rfl (by first | exact Or.inl rfl | exact Or.inr rfl) (pe_op op_mod (pe_callTy call_int1 (by rfl) z_int (by decide +kernel) (pa_cons (pe_ix (ixL K) (pv 0) pe_int (fun _ _ => rfl)) pa_nil)) (pv 1))) (pss_cons (ps_asg (pe_op op_fdiv (pe_ix (ixL K) (pv 0) pe_int (fun _ _ => rfl)) (pv 1)) (pg_sub (pv 0) pe_int set_list)) (pss_one (ps_ret (pv 2)))))), ?_⟩
    walk_at "rd"
    obtain ⟨M, hM⟩ : ∃ M : L2.St → Hp → Prop, M = fun σ' H' => But p H H' ∧ (∃ a k : Int, H' p = some (.lst [.int a, .ref q, .int k]) ∧ 0 ≤ a ∧ -1 ≤ k) ∧ σ' = [some (.ref p), some (.int m), none] := ⟨_, rfl⟩
    refine ⟨M, ?_, fun σ' H' hm => ?_⟩
    · walk_at "rd"
      refine ⟨_, SqL.of hp, _, rfl, ?_⟩
      walk_at "rd"
      refine ite2 (fun h1 => ?_) (fun h1 => ?_)
      · refine ⟨_, SqL.of hp, _, rfl, ?_⟩
        walk_at "rd"
        refine ⟨_, _, _, _, rfl, rfl, hp, rfl, ?_⟩
        refine ⟨_, SqL.of upd_same, _, rfl, _, SqL.of upd_same, _, rfl, ?_⟩
        have e2 : (upd H p (.lst ([V.int a, V.ref q, V.int k].set 2 (V.int (k + 1))))) q = some (.lst (ns.map V.int)) := by
          rw [upd_ne hne.symm]
          exact hq
        refine ⟨q, ns, k + 1, rfl, SqL.of e2, by omega, fun r hr0 => ?_⟩
        refine ⟨_, _, _, _, rfl, rfl, upd_same, rfl, ?_⟩
        rw [hM]
        exact ⟨But.upd.trans But.upd, ⟨r, k + 1, upd_same, hr0, by omega⟩, rfl⟩
      · rw [hM]
        exact ⟨But.refl _ _, ⟨a, k, hp, ha, hk⟩, rfl⟩
    · rw [hM] at hm
      obtain ⟨hB, ⟨a1, k1, hp1, ha1, hk1⟩, rfl⟩ := hm
      walk_at "rd"
      refine ⟨_, SqL.of hp1, _, rfl, ?_⟩
      walk_at "rd"
      refine ⟨hm0, _, SqL.of hp1, _, rfl, ?_⟩
      walk_at "rd"
      refine ⟨⟨hm0, hm1⟩, _, _, _, _, rfl, rfl, hp1, rfl, ?_⟩
      refine ok _ _ (Int.emod_nonneg _ (by omega)) (Int.emod_lt_of_pos _ hm0) (hB.trans But.upd) ⟨hne, ?_, a1 / m, k1, upd_same, Int.ediv_nonneg ha1 (by omega), hk1⟩
      rw [upd_ne hne.symm]
      exact hB _ _ hne.symm hq

def sp_pool (K : PySem.W.Frag) : Sp := fun vs H Q _ => ∃ (a : Addr) (ns : List Int), vs = [.ref a] ∧ SqL K H a (ns.map V.int) ∧ ∀ p q H', Same H H' → H p = none → H q = none → Pool H' p q ns → Q (.ref p) H'
theorem c__law_pool {f : Addr} {fd : FuncData} (D : C8.Def K mg "_law_pool" s__law_pool f fd) (b : Binds K fd ["script"] []) (z_list : mg "list" = none) : C8.Cal P w K mg base 1 "_law_pool" (sp_pool K) [] := by
  refine C8.cal0 D b .nil sc__law_pool (fun vs H Q E h => ?_) (fun cdv A outer s H vs Q E hr h => ?_)
  · obtain ⟨_, _, rfl, _⟩ := h
    rfl
  · obtain ⟨a, ns, rfl, hS, ok⟩ := h
    refine ⟨_, (pss_one (ps_ret (pe_lst (pa_cons pe_int (pa_cons (pe_callTy (listOf K) (by rfl) z_list (by decide +kernel) (pa_cons (pv 0) pa_nil)) (pa_cons (pe_un un_neg pe_int) pa_nil)))))), ?_⟩
    walk_at "rd"
    refine ⟨_, .inl hS, fun q hq => ⟨by show 3 ≤ sizeLine; decide, fun p hp => ?_⟩⟩
    have hne : p ≠ q := fun e => by
      subst e
      rw [upd_same] at hp
      cases hp
    have hp0 : H p = none := by
      rw [upd_ne hne] at hp
      exact hp
    refine ok p q _ ((same_upd hq).trans (same_upd hp)) hp0 hq ⟨hne, ?_, 0, -1, upd_same, by decide, by decide⟩
    rw [upd_ne hne.symm, upd_same]
/-- a written list, an item of it drawn -/
theorem menu {H : Hp} {p q l : Addr} {ns : List Int} {xs : List V} {Q : VK} {E : XK} (hP : Pool H p q ns) (hl : H l = none) (m : Int) (hm : m = xs.length) (hm0 : 0 < m) (hm1 : m < 1073741824) (ok : ∀ v H', v ∈ xs → But p H H' → Pool H' p q ns → Q v H') :
    sp_take [.ref p, .int m] (upd H l (.lst xs)) (fun y H2 => ∃ x x_1, y = V.int x_1 ∧ SqL K H2 l x ∧ ∃ x_2, atI x x_1 = some x_2 ∧ Q x_2 H2) E := by
  refine ⟨p, q, ns, m, rfl, hP.same (same_upd hl), hm0, hm1, fun r H1 r0 r1 hB hP1 => ?_⟩
  have hne : l ≠ p := by
    obtain ⟨_, _, _, _, hp, _⟩ := hP
    exact (ne_of_none hp hl).symm
  obtain ⟨v, hv, hm2⟩ := at_mem (xs := xs) r0 (by omega)
  exact ⟨_, r, rfl, SqL.of (hB l _ hne upd_same), v, hv, ok v H1 hm2 ((But.of (same_upd hl)).trans hB) hP1⟩
/-- a sign of a text drawn -/
theorem sign {H : Hp} {p q : Addr} {ns : List Int} {l : List Nat} {Q : Nat → Hp → Prop} {E : XK} (hP : Pool H p q ns) (m : Int) (hm : m = l.length) (hm0 : 0 < m) (hm1 : m < 10000) (ok : ∀ c H', c ∈ l → But p H H' → Pool H' p q ns → Q c H') :
    sp_take [.ref p, .int m] H (fun y H2 => ∃ x, y = V.int x ∧ l.length ≤ sizeLine ∧ ∃ c, atI l x = some c ∧ Q c H2) E := by
  refine ⟨p, q, ns, m, rfl, hP, hm0, by omega, fun r H1 r0 r1 hB hP1 => ?_⟩
  obtain ⟨v, hv, hm2⟩ := at_mem (xs := l) r0 (by omega)
  exact ⟨r, rfl, small (by omega), v, hv, ok v H1 hm2 hB hP1⟩
def sp_reserved : Sp := fun vs H Q _ => vs = [] ∧ ∀ p H', Same H H' → H p = none → H' p = some (.lst (RES.map vS)) → Q (.ref p) H'
theorem c__law_reserved {f : Addr} {fd : FuncData} (D : C8.Def K mg "_law_reserved" s__law_reserved f fd) (b : Binds K fd [] [])  : C8.Cal P w K mg base 1 "_law_reserved" sp_reserved [] := by
  refine C8.cal0 D b .nil sc__law_reserved (fun vs H Q E h => ?_) (fun cdv A outer s H vs Q E hr h => ?_)
  · obtain ⟨rfl, _⟩ := h
    rfl
  · obtain ⟨rfl, ok⟩ := h
    refine ⟨_, (pss_one (ps_ret (pe_lst (pa_cons pe_str (pa_cons pe_str (pa_cons pe_str (pa_cons pe_str (pa_cons pe_str pa_nil)))))))), ?_⟩
    walk_at "rd"
    refine ⟨by show 5 ≤ sizeLine; decide, fun p hp => ok p _ (same_upd hp) hp upd_same⟩
def sp_signs : Sp := fun vs H Q _ => vs = [] ∧ ∀ p H', Same H H' → H p = none → H' p = some (.lst (SGN.map vS)) → Q (.ref p) H'
theorem c__law_signs {f : Addr} {fd : FuncData} (D : C8.Def K mg "_law_signs" s__law_signs f fd) (b : Binds K fd [] [])  : C8.Cal P w K mg base 1 "_law_signs" sp_signs [] := by
  refine C8.cal0 D b .nil sc__law_signs (fun vs H Q E h => ?_) (fun cdv A outer s H vs Q E hr h => ?_)
  · obtain ⟨rfl, _⟩ := h
    rfl
  · obtain ⟨rfl, ok⟩ := h
    refine ⟨_, (pss_cons (ps_set (i := 0) sc__law_signs.nd rfl (by first | exact Or.inl rfl | exact Or.inr rfl) (pe_lst (pa_cons pe_str (pa_cons pe_str (pa_cons pe_str (pa_cons pe_str (pa_cons pe_str (pa_cons pe_str (pa_cons pe_str (pa_cons pe_str (pa_cons pe_str (pa_cons pe_str (pa_cons pe_str (pa_cons pe_str pa_nil)))))))))))))) (pss_one (ps_ret (pe_op op_cat (pv 0) (pe_lst (pa_cons pe_str (pa_cons pe_str (pa_cons pe_str (pa_cons pe_str (pa_cons pe_str (pa_cons pe_str (pa_cons pe_str (pa_cons pe_str (pa_cons pe_str (pa_cons pe_str (pa_cons pe_str (pa_cons pe_str pa_nil))))))))))))))))), ?_⟩
    walk_at "rd"
    refine ⟨by show 12 ≤ sizeLine; decide, fun p hp => ⟨by show 12 ≤ sizeLine; decide, fun r hr0 => ?_⟩⟩
    have nr : p ≠ r := ne_of_none upd_same hr0
    refine ⟨_, (by rw [upd_ne nr]; exact upd_same), _, upd_same, by show 24 ≤ sizeLine; decide, fun u hu => ?_⟩
    have hu0 : H u = none := ((same_upd hp).trans (same_upd hr0)).free hu
    exact ok u _ (((same_upd hp).trans (same_upd hr0)).trans (same_upd hu)) hu0 upd_same
def sp_name : Sp := fun vs H Q _ => ∃ (p q : Addr) (ns : List Int), vs = [.ref p] ∧ Pool H p q ns ∧ ∀ l H', GName l → But p H H' → Pool H' p q ns → Q (.str (S l)) H'
def NumL (L : List Int) : List V := L.map V.int
theorem c__law_name {f : Addr} {fd : FuncData} (D : C8.Def K mg "_law_name" s__law_name f fd) (b : Binds K fd ["pool"] []) (c__law_take : C8.Cal P w K mg base 2 "_law_take" sp_take []) (c__law_reserved : C8.Cal P w K mg base 1 "_law_reserved" sp_reserved []) (z_range : mg "range" = none) : C8.Cal P w K mg base 3 "_law_name" sp_name [] := by
  refine C8.cal0 D b .nil sc__law_name (fun vs H Q E h => ?_) (fun cdv A outer s H vs Q E hr h => ?_)
  · obtain ⟨_, _, _, rfl, _⟩ := h
    rfl
  · obtain ⟨p, q, ns, rfl, hP, ok⟩ := h
    refine ⟨_, (pss_cons (ps_set (i := 1) sc__law_name.nd rfl (by first | exact Or.inl rfl | exact Or.inr rfl) pe_str) (pss_cons (ps_set (i := 2) sc__law_name.nd rfl (by first | exact Or.inl rfl | exact Or.inr rfl) (pe_ix (ixL K) (pe_lst (pa_cons pe_str (pa_cons pe_str (pa_cons pe_str (pa_cons pe_str (pa_cons pe_str (pa_cons pe_str (pa_cons pe_str (pa_cons pe_str pa_nil))))))))) (C8.pe_c c__law_take hr (by decide) (by rfl) (pa_cons (pv 0) (pa_cons pe_int pa_nil))) (fun _ _ => rfl))) (C8.pss_cut (ps_if (pt_cmpR (op_eq) (C8.pe_c c__law_take hr (by decide) (by rfl) (pa_cons (pv 0) (pa_cons pe_int pa_nil))) pe_int (nomark _)) (pss_cons (ps_set (i := 2) sc__law_name.nd rfl (by first | exact Or.inl rfl | exact Or.inr rfl) (pe_ix ix_str (pv 1) (C8.pe_c c__law_take hr (by decide) (by rfl) (pa_cons (pv 0) (pa_cons pe_int pa_nil))) (fun _ _ => rfl))) (pss_one (ps_for PassesOwn.never rfl (pi_range1 (by rfl) z_range (pa_cons (pe_ix (ixL K) (pe_lst (pa_cons pe_int (pa_cons pe_int (pa_cons pe_int (pa_cons pe_int (pa_cons pe_int (pa_cons pe_int pa_nil))))))) (C8.pe_c c__law_take hr (by decide) (by rfl) (pa_cons (pv 0) (pa_cons pe_int pa_nil))) (fun _ _ => rfl)) pa_nil)) (pg_name (i := 3) sc__law_name.nd rfl (by first | exact Or.inl rfl | exact Or.inr rfl)) (pss_one (ps_set (i := 2) sc__law_name.nd rfl (by first | exact Or.inl rfl | exact Or.inr rfl) (pe_op op_add_str (pv 2) (pe_ix ix_str (pe_op op_add_str (pv 1) pe_str) (C8.pe_c c__law_take hr (by decide) (by rfl) (pa_cons (pv 0) (pa_cons pe_int pa_nil))) (fun _ _ => rfl)))))))) pss_nil) (C8.pss_cut (ps_if (pt_cmpR (inQ K) (pv 2) (pe_c0 c__law_reserved hr (by decide) (by rfl)) (by with_unfolding_all rfl)) (pss_one (ps_set (i := 2) sc__law_name.nd rfl (by first | exact Or.inl rfl | exact Or.inr rfl) (pe_op op_add_str (pv 2) pe_str))) pss_nil) (pss_one (ps_ret (pv 2))))))), ?_⟩
    walk_at "rd"
    refine ⟨by show 8 ≤ sizeLine; decide, fun l1 hl1 => menu hP hl1 8 rfl (by decide) (by decide) fun v H1 hv hB1 hP1 => ?_⟩
    obtain ⟨nm, hnm, rfl⟩ : ∃ nm ∈ NMS, vS (cs nm) = v := List.mem_map.mp (show v ∈ NMS.map fun s => vS (cs s) from hv)
    obtain ⟨M, hM⟩ : ∃ M : L2.St → Hp → Prop, M = fun σ' H' => ∃ (l : List Nat) (k : Option V), (∃ c r, l = c :: r ∧ c ∈ LOW) ∧ (∀ c ∈ l, c ∈ LOW ++ DIG) ∧ l.length ≤ 12 ∧ σ' = [some (.ref p), some (.str (S LOW)), some (.str (S l)), k] ∧ But p H H' ∧ Pool H' p q ns := ⟨_, rfl⟩
    refine ⟨M, ?_, fun σ' H' hm => ?_⟩
    · walk_at "rd"
      refine ⟨p, q, ns, 3, rfl, hP1, by decide, by decide, fun r H2 r0 r1 hB2 hP2 => ⟨rfl, ?_⟩⟩
      walk_at "rd"
      refine ite2 (fun _ => ?_) (fun _ => ?_)
      · refine sign hP2 26 (by exact congrArg Int.ofNat low_len.symm) (by decide) (by decide) (fun c H3 hc hB3 hP3 => ?_)
        refine ⟨by show 6 ≤ sizeLine; decide, fun l2 hl2 => menu hP3 hl2 6 rfl (by decide) (by decide) fun v H4 hv4 hB4 hP4 => ?_⟩
        obtain ⟨j, hj, rfl⟩ : ∃ j ∈ ([0, 1, 2, 3, 7, 11] : List Int), V.int j = v := List.mem_map.mp (show v ∈ ([0, 1, 2, 3, 7, 11] : List Int).map V.int from hv4)
        have hj2 : 0 ≤ j ∧ j ≤ 11 := by
          have : ∀ j ∈ ([0, 1, 2, 3, 7, 11] : List Int), 0 ≤ j ∧ j ≤ 11 := by decide
          exact this j hj
        refine ⟨j, rfl, by omega, by omega, ?_⟩
        have hBx : But p H H4 := ((hB1.trans hB2).trans hB3).trans hB4
        refine for_range (fun i σ H5 => ∃ (l : List Nat) (k : Option V), (∃ c r, l = c :: r ∧ c ∈ LOW) ∧ (∀ c ∈ l, c ∈ LOW ++ DIG) ∧ l.length = i + 1 ∧ σ = [some (.ref p), some (.str (S LOW)), some (.str (S l)), k] ∧ But p H H5 ∧ Pool H5 p q ns) ?_ ?_ ?_
        · exact ⟨[c], none, ⟨c, [], rfl, hc⟩, fun d hd => by rw [List.mem_singleton.mp hd]; exact List.mem_append_left _ hc, rfl, rfl, hBx, hP4⟩
        · rintro i σ H5 hi ⟨l, k, hd, al, le, rfl, hB5, hP5⟩
          have hle : l.length ≤ 11 := by omega
          walk_at "rd"
          refine ⟨by rw [low_len]; exact small (by decide), sign (l := LOW ++ DIG) hP5 36 (by rw [lowdig_len]; rfl) (by decide) (by decide) fun d H6 hd6 hB6 hP6 => ⟨small (by omega), l ++ [d], ?_, ?_, ?_, _, ⟨rfl, rfl⟩, hB5.trans hB6, hP6⟩⟩
          · obtain ⟨c0, r0', rfl, hc0⟩ := hd
            exact ⟨c0, r0' ++ [d], rfl, hc0⟩
          · intro x hx
            rcases List.mem_append.mp hx with hx | hx
            · exact al x hx
            · rw [List.mem_singleton.mp hx]
              exact hd6
          · rw [List.length_append, le]
            rfl
        · rintro σ H5 ⟨l, k, hd, al, le, rfl, hB5, hP5⟩
          rw [hM]
          exact ⟨l, k, hd, al, by omega, rfl, hB5, hP5⟩
      · rw [hM]
        obtain ⟨h1, h2, h3⟩ := nms_ok nm hnm
        exact ⟨cs nm, none, h1, h2, h3, rfl, hB1.trans hB2, hP2⟩
    · rw [hM] at hm
      obtain ⟨l, k, hd, al, le, rfl, hB, hP2⟩ := hm
      obtain ⟨M2, hM2⟩ : ∃ M : L2.St → Hp → Prop, M = fun σ' H' => ∃ (l : List Nat) (k : Option V), GName l ∧ σ' = [some (.ref p), some (.str (S LOW)), some (.str (S l)), k] ∧ But p H H' ∧ Pool H' p q ns := ⟨_, rfl⟩
      refine ⟨M2, ?_, fun σ' H' hm => ?_⟩
      · walk_at "rd"
        refine ⟨rfl, fun r1 H3 sm hr0 hr1 => ⟨r1, rfl, _, .inl (SqL.of hr1), rfl, flat_S RES, ?_⟩⟩
        obtain ⟨g1, g2⟩ := gname_of hd al le
        rw [inV_S]
        refine ite2 (fun h => ?_) (fun h => ?_)
        · have hm : l ∈ RES := of_decide_eq_true h
          refine ⟨small (by have := res_len l hm; have : (cs "0").length = 1 := by decide +kernel
                            omega), ?_⟩
          rw [hM2]
          exact ⟨l ++ cs "0", k, g1 hm, rfl, hB.trans (But.of sm), hP2.same sm⟩
        · have hm : l ∉ RES := fun e => h (decide_eq_true e)
          rw [hM2]
          exact ⟨l, k, g2 hm, rfl, hB.trans (But.of sm), hP2.same sm⟩
      · rw [hM2] at hm
        obtain ⟨l, k, hg, rfl, hB3, hP3⟩ := hm
        walk_at "rd"
        exact ok l _ hg hB3 hP3
def sp_word : Sp := fun vs H Q _ => ∃ (p q : Addr) (ns : List Int), vs = [.ref p] ∧ Pool H p q ns ∧ ∀ l H', GWord l → But p H H' → Pool H' p q ns → Q (.str (S l)) H'
theorem c__law_word {f : Addr} {fd : FuncData} (D : C8.Def K mg "_law_word" s__law_word f fd) (b : Binds K fd ["pool"] []) (c__law_take : C8.Cal P w K mg base 2 "_law_take" sp_take []) (z_range : mg "range" = none) : C8.Cal P w K mg base 3 "_law_word" sp_word [] := by
  refine C8.cal0 D b .nil sc__law_word (fun vs H Q E h => ?_) (fun cdv A outer s H vs Q E hr h => ?_)
  · obtain ⟨_, _, _, rfl, _⟩ := h
    rfl
  · obtain ⟨p, q, ns, rfl, hP, ok⟩ := h
    refine ⟨_, (pss_cons (ps_set (i := 1) sc__law_word.nd rfl (by first | exact Or.inl rfl | exact Or.inr rfl) pe_str) (pss_cons (ps_set (i := 2) sc__law_word.nd rfl (by first | exact Or.inl rfl | exact Or.inr rfl) (pe_ix ix_str (pv 1) (C8.pe_c c__law_take hr (by decide) (by rfl) (pa_cons (pv 0) (pa_cons pe_int pa_nil))) (fun _ _ => rfl))) (pss_cons (ps_for PassesOwn.never rfl (pi_range1 (by rfl) z_range (pa_cons (pe_ix (ixL K) (pe_lst (pa_cons pe_int (pa_cons pe_int (pa_cons pe_int (pa_cons pe_int pa_nil))))) (C8.pe_c c__law_take hr (by decide) (by rfl) (pa_cons (pv 0) (pa_cons pe_int pa_nil))) (fun _ _ => rfl)) pa_nil)) (pg_name (i := 3) sc__law_word.nd rfl (by first | exact Or.inl rfl | exact Or.inr rfl)) (pss_one (ps_set (i := 2) sc__law_word.nd rfl (by first | exact Or.inl rfl | exact Or.inr rfl) (pe_op op_add_str (pv 2) (pe_ix ix_str (pe_op op_add_str (pv 1) pe_str) (C8.pe_c c__law_take hr (by decide) (by rfl) (pa_cons (pv 0) (pa_cons pe_int pa_nil))) (fun _ _ => rfl)))))) (pss_one (ps_ret (pv 2)))))), ?_⟩
    walk_at "rd"
    refine sign hP 26 (by exact congrArg Int.ofNat upp_len.symm) (by decide) (by decide) (fun c H3 hc hB3 hP3 => ?_)
    refine ⟨by show 4 ≤ sizeLine; decide, fun l2 hl2 => menu hP3 hl2 4 rfl (by decide) (by decide) fun v H4 hv4 hB4 hP4 => ?_⟩
    obtain ⟨j, hj, rfl⟩ : ∃ j ∈ ([0, 1, 2, 11] : List Int), V.int j = v := List.mem_map.mp (show v ∈ ([0, 1, 2, 11] : List Int).map V.int from hv4)
    have hj2 : 0 ≤ j ∧ j ≤ 11 := by
      have : ∀ j ∈ ([0, 1, 2, 11] : List Int), 0 ≤ j ∧ j ≤ 11 := by decide
      exact this j hj
    refine ⟨j, rfl, by omega, by omega, ?_⟩
    refine for_range (fun i σ H5 => ∃ (l : List Nat) (k : Option V), (∃ c r, l = c :: r ∧ c ∈ UPP) ∧ (∀ c ∈ l, c ∈ UPP ++ DIG) ∧ l.length = i + 1 ∧ σ = [some (.ref p), some (.str (S UPP)), some (.str (S l)), k] ∧ But p H H5 ∧ Pool H5 p q ns) ?_ ?_ ?_
    · exact ⟨[c], none, ⟨c, [], rfl, hc⟩, fun d hd => by rw [List.mem_singleton.mp hd]; exact List.mem_append_left _ hc, rfl, rfl, hB3.trans hB4, hP4⟩
    · rintro i σ H5 hi ⟨l, k, hd, al, le, rfl, hB5, hP5⟩
      have hle : l.length ≤ 11 := by omega
      walk_at "rd"
      refine ⟨by rw [upp_len]; exact small (by decide), sign (l := UPP ++ DIG) hP5 36 (by rw [uppdig_len]; rfl) (by decide) (by decide) fun d H6 hd6 hB6 hP6 => ⟨small (by omega), l ++ [d], ?_, ?_, ?_, _, ⟨rfl, rfl⟩, hB5.trans hB6, hP6⟩⟩
      · obtain ⟨c0, r0', rfl, hc0⟩ := hd
        exact ⟨c0, r0' ++ [d], rfl, hc0⟩
      · intro x hx
        rcases List.mem_append.mp hx with hx | hx
        · exact al x hx
        · rw [List.mem_singleton.mp hx]
          exact hd6
      · rw [List.length_append, le]
        rfl
    · rintro σ H5 ⟨l, k, hd, al, le, rfl, hB5, hP5⟩
      walk_at "rd"
      exact ok l _ ⟨hd, al, by omega⟩ hB5 hP5
def sp_space : Sp := fun vs H Q _ => ∃ (p q : Addr) (ns : List Int) (nd : Bool), vs = [.ref p, .bl nd] ∧ Pool H p q ns ∧ ∀ l H', (∀ c ∈ l, c = 32 ∨ c = 10) → l.length ≤ 4 → (nd = true → l ≠ []) → But p H H' → Pool H' p q ns → Q (.str (S l)) H'
theorem c__law_space {f : Addr} {fd : FuncData} (D : C8.Def K mg "_law_space" s__law_space f fd) (b : Binds K fd ["pool", "needed"] []) (c__law_take : C8.Cal P w K mg base 2 "_law_take" sp_take []) : C8.Cal P w K mg base 3 "_law_space" sp_space [] := by
  refine C8.cal0 D b .nil sc__law_space (fun vs H Q E h => ?_) (fun cdv A outer s H vs Q E hr h => ?_)
  · obtain ⟨_, _, _, _, rfl, _⟩ := h
    rfl
  · obtain ⟨p, q, ns, nd, rfl, hP, ok⟩ := h
    refine ⟨_, (pss_cons (ps_set (i := 2) sc__law_space.nd rfl (by first | exact Or.inl rfl | exact Or.inr rfl) (pe_ix (ixL K) (pe_lst (pa_cons pe_str (pa_cons pe_str (pa_cons pe_str (pa_cons pe_str (pa_cons pe_str (pa_cons pe_str pa_nil))))))) (C8.pe_c c__law_take hr (by decide) (by rfl) (pa_cons (pv 0) (pa_cons pe_int pa_nil))) (fun _ _ => rfl))) (pss_cons (ps_if (PW.pt (pw_and (pt_val (pv 1)) (pw_and1 (pt_cmpR (op_eq) (pv 2) pe_str (nomark _))))) (pss_one (ps_ret pe_str)) pss_nil) (pss_one (ps_ret (pv 2))))), ?_⟩
    walk_at "rd"
    refine ⟨by show 6 ≤ sizeLine; decide, fun l1 hl1 => menu hP hl1 6 rfl (by decide) (by decide) fun v H1 hv hB1 hP1 => ?_⟩
    obtain ⟨nm, hnm, rfl⟩ : ∃ nm ∈ SPS, vS (cs nm) = v := List.mem_map.mp (show v ∈ SPS.map fun s => vS (cs s) from hv)
    obtain ⟨h1, h2⟩ := sps_ok nm hnm
    refine ite2 (fun hn => ⟨rfl, ite2 (fun he => ?_) (fun he => ?_)⟩) (fun hn => ?_)
    · exact ok _ _ (by decide +kernel) (by decide +kernel) (fun _ => by decide +kernel) hB1 hP1
    · refine ok _ _ h1 h2 (fun _ e0 => he ?_) hB1 hP1
      show V.str (S (cs nm)) = _
      rw [e0]
      rfl
    · exact ok _ _ h1 h2 (fun e => absurd e hn) hB1 hP1
def sp_joins : Sp := fun vs H Q _ => ∃ (a b : List Nat) (x y : Nat) (a' b' : List Nat), vs = [.str (S a), .str (S b)] ∧ a = a' ++ [x] ∧ b = y :: b' ∧ a.length ≤ 1000 ∧ b.length ≤ 1000 ∧ ∀ H', Same H H' → Q (.bl (joins a b)) H'
theorem c__law_joins {f : Addr} {fd : FuncData} (D : C8.Def K mg "_law_joins" s__law_joins f fd) (b : Binds K fd ["left", "right"] []) (c__law_signs : C8.Cal P w K mg base 1 "_law_signs" sp_signs []) (z_len : mg "len" = none) : C8.Cal P w K mg base 2 "_law_joins" sp_joins [] := by
  refine C8.cal0 D b .nil sc__law_joins (fun vs H Q E h => ?_) (fun cdv A outer s H vs Q E hr h => ?_)
  · obtain ⟨_, _, _, _, _, _, rfl, _⟩ := h
    rfl
  · obtain ⟨a, b, x, y, a', b', rfl, ea, eb, la, lb, ok⟩ := h
    refine ⟨_, (C8.pss_cut (ps_if (PW.pt (pw_and (pt_val (pe_m0 PySem.F.slot_str_isalnum PySem.F.type_str_isalnum mt_isalnum (pe_ix ix_str (pv 0) (pe_un un_neg pe_int) (fun _ _ => rfl)))) (pw_and1 (pt_val (pe_m0 PySem.F.slot_str_isalnum PySem.F.type_str_isalnum mt_isalnum (pe_ix ix_str (pv 1) pe_int (fun _ _ => rfl))))))) (pss_one (ps_ret pe_bl)) pss_nil) (pss_cons (ps_for PassesOwn.never rfl (pi_list (pe_c0 c__law_signs hr (by decide) (by rfl))) (pg_name (i := 2) sc__law_joins.nd rfl (by first | exact Or.inl rfl | exact Or.inr rfl)) (pss_one (ps_if (PW.pt (pw_and (pt_cmpR (op_gt) (pe_callB call_len_str (by rfl) z_len PySem.boot_len (pa_cons (pv 2) pa_nil)) (pe_callB call_len_str (by rfl) z_len PySem.boot_len (pa_cons (pv 0) pa_nil)) (nomark _)) (pw_and (pt_val (pe_m1 PySem.F.slot_str_startswith PySem.F.type_str_startswith mt_startswith (pv 2) (pv 0))) (pw_and1 (pt_val (pe_m1 PySem.F.slot_str_startswith PySem.F.type_str_startswith mt_startswith (pe_op op_add_str (pv 0) (pv 1)) (pv 2))))))) (pss_one (ps_ret pe_bl)) pss_nil))) (pss_one (ps_ret pe_bl)))), ?_⟩
    walk_at "rd"
    obtain ⟨M, hM⟩ : ∃ M : L2.St → Hp → Prop, M = fun σ' H' => (isAN x && isAN y) = false ∧ σ' = [some (.str (S a)), some (.str (S b)), none] ∧ H' = H := ⟨_, rfl⟩
    refine ⟨M, ?_, fun σ' H' hm => ?_⟩
    · walk_at "rd"
      have ea2 : atI a (-1) = some x := by rw [ea]; exact atI_last _ _
      have eb2 : atI b 0 = some y := by rw [eb]; exact atI_nat (j := 0) rfl
      refine ⟨small (by omega), x, ea2, ?_⟩
      refine ite2 (fun h1 => ⟨small (by omega), y, eb2, ?_⟩) (fun h1 => ?_)
      · refine ite2 (fun h2 => ?_) (fun h2 => ?_)
        · have ej : joins a b = true := by
            unfold joins
            rw [ea, eb]
            simp [h1, h2]
          rw [← ej]
          exact ok H (Same.refl H)
        · rw [hM]
          exact ⟨by simp [h1, h2], rfl, rfl⟩
      · rw [hM]
        exact ⟨by simp [h1], rfl, rfl⟩
    · rw [hM] at hm
      obtain ⟨han, rfl, rfl⟩ := hm
      walk_at "rd"
      refine ⟨rfl, fun r H1 sm hr0 hr1 => ⟨r, rfl, ⟨_, SqL.of hr1⟩, ?_⟩⟩
      obtain ⟨Pv, hPv⟩ : ∃ Pv : Nat → L2.St → Hp → Prop, Pv = fun i σ H2 => ∃ k, σ = [some (.str (S a)), some (.str (S b)), k] ∧ H1 = H2 ∧ (SGN.take i).any (fun s => decide (a.length < s.length) && pfx a s && pfx s (a ++ b)) = false := ⟨_, rfl⟩
      refine for_list (xs := SGN.map vS) Pv ?_ ?_ ?_ ?_
      · rw [hPv]
        exact ⟨none, rfl, rfl, rfl⟩
      · rw [hPv]
        rintro i σ H2 hi ⟨k, rfl, rfl, _⟩
        exact SqL.of hr1
      · intro i v σ H2 hv hp
        rw [hPv] at hp
        obtain ⟨k, rfl, rfl, hany⟩ := hp
        rw [List.getElem?_map] at hv
        obtain ⟨s, hs, rfl⟩ := Option.map_eq_some_iff.mp hv
        have hsm : s ∈ SGN := List.mem_of_getElem? hs
        have hsl : s.length ≤ 3 := sgn_len s hsm
        unfold vS
        walk_at "rd"
        have hnext : (decide (a.length < s.length) && pfx a s && pfx s (a ++ b)) = false → Pv (i + 1) [some (.str (S a)), some (.str (S b)), some (.str (S s))] H1 := by
          intro h
          rw [hPv]
          refine ⟨_, rfl, rfl, ?_⟩
          rw [List.take_add_one, hs, List.any_append, hany]
          simp [h]
        have hstop : (decide (a.length < s.length) && pfx a s && pfx s (a ++ b)) = true → Q (V.bl true) H1 := by
          intro h
          have ej : joins a b = true := by
            unfold joins
            rw [List.any_eq_true.mpr ⟨s, hsm, h⟩]
            simp
          rw [← ej]
          exact ok _ sm
        refine ⟨small (by omega), small (by omega), ite2 (fun h1 => ite2 (fun h2 => ⟨small (by omega), ite2 (fun h3 => hstop ?_) (fun h3 => hnext ?_)⟩) (fun h2 => hnext ?_)) (fun h1 => hnext ?_)⟩
        · have h1' : a.length < s.length := by omega
          simp [h1', h2, h3]
        · simp [h3]
        · simp [h2]
        · have h1' : ¬ a.length < s.length := by omega
          simp [h1']
      · intro σ H2 hp
        rw [hPv] at hp
        obtain ⟨k, rfl, rfl, hany⟩ := hp
        walk_at "rd"
        rw [List.length_map, List.take_length] at hany
        have ej : joins a b = false := by
          unfold joins
          rw [hany, ea, eb]
          simpa using han
        rw [← ej]
        exact ok _ sm
def sp_stands_at : Sp := fun vs H Q _ => ∃ (pre rest ch : List Nat), vs = [.str (S (pre ++ rest)), .int (pre.length : Nat), .str (S ch)] ∧ (pre ++ rest).length ≤ 10000 ∧ Q (.bl (hdIn ch rest)) H
theorem c_stands_at {f : Addr} {fd : FuncData} (D : C8.Def K mg "stands_at" s_stands_at f fd) (b : Binds K fd ["text", "at", "characters"] []) (z_len : mg "len" = none) : C8.Cal P w K mg base 1 "stands_at" sp_stands_at [] := by
  refine C8.cal0 D b .nil sc_stands_at (fun vs H Q E h => ?_) (fun cdv A outer s H vs Q E hr h => ?_)
  · obtain ⟨_, _, _, rfl, _⟩ := h
    rfl
  · obtain ⟨pre, rest, ch, rfl, hl, ok⟩ := h
    refine ⟨_, (pss_one (ps_ret (pe_and (pe_cmpR (op_lt) (pv 1) (pe_callB call_len_str (by rfl) z_len PySem.boot_len (pa_cons (pv 0) pa_nil)) (nomark _)) (pe_one (pe_cmpR (op_in_sign) (pe_ix ix_str (pv 0) (pv 1) (fun _ _ => rfl)) (pv 2) (by with_unfolding_all rfl)))))), ?_⟩
    walk_at "rd"
    refine ⟨small hl, ?_⟩
    cases rest with
    | nil =>
      rw [if_neg (by rw [List.append_nil]; omega)]
      exact ok
    | cons c r =>
      rw [if_pos (by rw [List.length_append, List.length_cons]; omega)]
      exact ⟨small hl, c, at_app, ok⟩
def sp_run_end : Sp := fun vs H Q _ => ∃ (pre l rest ch : List Nat), vs = [.str (S (pre ++ (l ++ rest))), .int (pre.length : Nat), .str (S ch)] ∧ (pre ++ (l ++ rest)).length ≤ 10000 ∧ (∀ c ∈ l, c ∈ ch) ∧ hdIn ch rest = false ∧ Q (.int ((pre.length + l.length : Nat) : Int)) H
theorem c_run_end {f : Addr} {fd : FuncData} (D : C8.Def K mg "run_end" s_run_end f fd) (b : Binds K fd ["text", "at", "characters"] []) (c_stands_at : C8.Cal P w K mg base 1 "stands_at" sp_stands_at []) : C8.Cal P w K mg base 2 "run_end" sp_run_end [] := by
  refine C8.cal0 D b .nil sc_run_end (fun vs H Q E h => ?_) (fun cdv A outer s H vs Q E hr h => ?_)
  · obtain ⟨_, _, _, _, rfl, _⟩ := h
    rfl
  · obtain ⟨pre, l, rest, ch, rfl, hl, hin, hout, ok⟩ := h
    refine ⟨_, (pss_cons (ps_while PassesOwn.never (pt_val (C8.pe_c c_stands_at hr (by decide) (by rfl) (pa_cons (pv 0) (pa_cons (pv 1) (pa_cons (pv 2) pa_nil))))) (pss_one (ps_aug (i := 1) sc_run_end.nd rfl (by first | exact Or.inl rfl | exact Or.inr rfl) pe_int ip_add))) (pss_one (ps_ret (pv 1)))), ?_⟩
    walk_at "rd"
    refine while_W (fun m σ H2 => ∃ l1 l2, l = l1 ++ l2 ∧ m = l2.length ∧ σ = [some (.str (S (pre ++ (l ++ rest)))), some (.int ((pre.length + l1.length : Nat) : Int)), some (.str (S ch))] ∧ H = H2) ⟨l.length, [], l, rfl, rfl, rfl, rfl⟩ ?_
    rintro m σ H2 ⟨l1, l2, rfl, rfl, rfl, rfl⟩
    walk_at "rd"
    refine ⟨pre ++ l1, l2 ++ rest, ch, by simp [List.append_assoc], by simpa [List.append_assoc] using hl, ?_⟩
    cases l2 with
    | nil =>
      refine ⟨_, rfl, ?_⟩
      rw [List.nil_append, hout, if_neg (by decide)]
      rw [List.append_nil] at ok
      exact ok
    | cons c r =>
      have hc : hdIn ch (c :: r ++ rest) = true := decide_eq_true (hin c (by simp))
      refine ⟨_, rfl, ?_⟩
      rw [hc, if_pos rfl]
      refine nxw_of fun N hN => ?_
      walk_at "rd"
      refine hN r.length _ _ (Nat.lt_succ_self _) ⟨l1 ++ [c], r, by simp, rfl, ?_, rfl⟩
      rw [List.length_append]
      congr 4
def sp_is_run : Sp := fun vs H Q _ => ∃ (x : V) (ch : List Nat), vs = [x, .str (S ch)] ∧ ch.length ≤ 100 ∧ ((∃ l, x = .str (S l) ∧ l.length ≤ 1000 ∧ Q (.bl (run ch l)) H) ∨ (NoStr H x ∧ Q (.bl false) H))
theorem c_is_run {f : Addr} {fd : FuncData} (D : C8.Def K mg "is_run" s_is_run f fd) (b : Binds K fd ["value", "letters"] []) (c_stands_at : C8.Cal P w K mg base 1 "stands_at" sp_stands_at []) (c_run_end : C8.Cal P w K mg base 2 "run_end" sp_run_end []) (g_DIGITS : ∃ u, mg "DIGITS" = some u ∧ RelV (.str (S DIG)) u) (g_LENGTH_LIMIT : ∃ u, mg "LENGTH_LIMIT" = some u ∧ RelV (.int 12) u) (z_len : mg "len" = none) (z_isinstance : mg "isinstance" = none) (z_str : mg "str" = none) : C8.Cal P w K mg base 3 "is_run" sp_is_run [] := by
  refine C8.cal0 D b .nil sc_is_run (fun vs H Q E h => ?_) (fun cdv A outer s H vs Q E hr h => ?_)
  · obtain ⟨_, _, rfl, _⟩ := h
    rfl
  · obtain ⟨x, ch, rfl, hch, ok⟩ := h
    refine ⟨_, (pss_cons (ps_if (PW.pt (pw_or (pt_not (pt_val (pe_callB (isiK K) (by rfl) z_isinstance (by decide +kernel) (pa_cons (pv 0) (pa_cons (pe_bltn (by rfl) z_str (by decide +kernel) (v := .ty "str") rfl) pa_nil))))) (pw_or1 (pt_not (pt_chain op_le op_le pe_int (pe_callB call_len_str (by rfl) z_len PySem.boot_len (pa_cons (pv 0) pa_nil)) (C8.pe_gc (by rfl) g_LENGTH_LIMIT)))))) (pss_one (ps_ret pe_bl)) pss_nil) (pss_one (ps_ret (pe_and (pe_cmpR (op_in_sign) (pe_ix ix_str (pv 0) pe_int (fun _ _ => rfl)) (pv 1) (by with_unfolding_all rfl)) (pe_one (pe_cmpR (op_eq) (C8.pe_c c_run_end hr (by decide) (by rfl) (pa_cons (pv 0) (pa_cons pe_int (pa_cons (pe_op op_add_str (pv 1) (C8.pe_gc (by rfl) g_DIGITS)) pa_nil)))) (pe_callB call_len_str (by rfl) z_len PySem.boot_len (pa_cons (pv 0) pa_nil)) (nomark _))))))), ?_⟩
    walk_at "rd"
    rcases ok with ⟨l, rfl, hl, ok⟩ | ⟨hn, ok⟩
    · refine isi_of (.base (.str _)) kit_str ?_
      walk_at "rd"
      have hf : run ch l = false → Q (V.bl false) H := fun e => by rw [e] at ok; exact ok
      have rl : run ch l = (decide (1 ≤ l.length) && decide (l.length ≤ 12) && hdIn ch l && l.all fun c => decide (c ∈ ch ++ DIG)) := rfl
      refine ⟨small (by omega), ite2 (fun h1 => ite2 (fun h2 => ⟨small (by omega), ?_⟩) (fun h2 => hf ?_)) (fun h1 => hf ?_)⟩
      · cases l with
        | nil => exact absurd h1 (by decide)
        | cons c r =>
          refine ⟨c, atI_nat (j := 0) rfl, ite2 (fun h3 => ⟨small (by have : DIG.length = 10 := by decide +kernel
                                                                      omega), ?_⟩) (fun h3 => hf ?_)⟩
          · obtain ⟨a, b2, e, ha, hb⟩ := run_split (ch ++ DIG) (c :: r)
            refine ⟨[], a, b2, ch ++ DIG, by rw [e]; rfl, by rw [← e]; simp at hl ⊢; omega, ha, hb, small (by omega), rfl, ?_⟩
            have he : decide (V.int (([] : List Nat).length + a.length : Nat) = V.int ((c :: r).length : Nat)) = run ch (c :: r) := by
              have h2' : (c :: r).length ≤ 12 := by omega
              have h1' : 1 ≤ (c :: r).length := by omega
              rw [rl, decide_eq_true h1', decide_eq_true h2', show hdIn ch (c :: r) = true from decide_eq_true h3]
              rw [Bool.true_and, Bool.true_and, Bool.true_and, e]
              cases b2 with
              | nil =>
                rw [List.append_nil, decide_eq_true (by rw [List.length_nil, Nat.zero_add])]
                exact (List.all_eq_true.mpr fun d hd => decide_eq_true (ha d hd)).symm
              | cons d r2 =>
                rw [decide_eq_false (by intro e2; have := V.int.inj e2; simp at this; omega), List.all_append]
                have : decide (d ∈ ch ++ DIG) = false := hb
                rw [List.all_cons, this]
                simp
            rw [he]
            exact ok
          · rw [rl, show hdIn ch (c :: r) = false from decide_eq_false h3]
            simp
      · rw [rl, decide_eq_false (show ¬ l.length ≤ 12 by omega)]
        simp
      · rw [rl, decide_eq_false (show ¬ 1 ≤ l.length by omega)]
        simp
    · obtain ⟨t, h1, h2⟩ := hn.ty (K := K)
      refine isi_of h1 h2 ?_
      walk_at "rd"
      exact ok
def sp_is_name : Sp := fun vs H Q _ => ∃ (x : V), vs = [x] ∧ ((∃ l, x = .str (S l) ∧ l.length ≤ 1000 ∧ Q (.bl (run LOW l && !decide (l ∈ RES))) H) ∨ (NoStr H x ∧ Q (.bl false) H))
theorem c_is_name {f : Addr} {fd : FuncData} (D : C8.Def K mg "is_name" s_is_name f fd) (b : Binds K fd ["value"] []) (c_is_run : C8.Cal P w K mg base 3 "is_run" sp_is_run []) (g_LOWER : ∃ u, mg "LOWER" = some u ∧ RelV (.str (S LOW)) u) {aR : Addr} (g_RESERVED : ∃ u, mg "RESERVED" = some u ∧ RelV (.ref aR) u) (kR : ∀ H, SqT K H aR (RES.map vS)) : C8.Cal P w K mg base 4 "is_name" sp_is_name [] := by
  refine C8.cal0 D b .nil sc_is_name (fun vs H Q E h => ?_) (fun cdv A outer s H vs Q E hr h => ?_)
  · obtain ⟨_, rfl, _⟩ := h
    rfl
  · obtain ⟨x, rfl, ok⟩ := h
    refine ⟨_, (pss_one (ps_ret (pe_and (C8.pe_c c_is_run hr (by decide) (by rfl) (pa_cons (pv 0) (pa_cons (C8.pe_gc (by rfl) g_LOWER) pa_nil))) (pe_one (pe_cmpR (notInQ K) (pv 0) (C8.pe_gc (by rfl) g_RESERVED) (by with_unfolding_all rfl)))))), ?_⟩
    walk_at "rd"
    refine ⟨x, LOW, rfl, by decide +kernel, ?_⟩
    rcases ok with ⟨l, rfl, hl, ok⟩ | ⟨hn, ok⟩
    · refine .inl ⟨l, rfl, hl, _, rfl, ite2 (fun h => ?_) (fun h => ?_)⟩
      · rw [h] at ok
        refine ⟨_, .inr (kR _), rfl, flat_S RES, ?_⟩
        rw [inV_S]
        exact ok
      · have h' : run LOW l = false := by simpa using h
        rw [h'] at ok
        exact ok
    · exact .inr ⟨hn, _, rfl, ok⟩
def sp_in_range : Sp := fun vs H Q _ => ∃ i : Int, vs = [.int i] ∧ Q (.bl (okC i)) H
theorem c_in_range {f : Addr} {fd : FuncData} (D : C8.Def K mg "in_range" s_in_range f fd) (b : Binds K fd ["number"] []) (g_COEFFICIENT_LIMIT : ∃ u, mg "COEFFICIENT_LIMIT" = some u ∧ RelV (.int 255) u) : C8.Cal P w K mg base 1 "in_range" sp_in_range [] := by
  refine C8.cal0 D b .nil sc_in_range (fun vs H Q E h => ?_) (fun cdv A outer s H vs Q E hr h => ?_)
  · obtain ⟨_, rfl, _⟩ := h
    rfl
  · obtain ⟨i, rfl, ok⟩ := h
    refine ⟨_, (pss_one (ps_ret (pe_chain op_le op_le (pe_un un_neg (C8.pe_gc (by rfl) g_COEFFICIENT_LIMIT)) (pv 0) (C8.pe_gc (by rfl) g_COEFFICIENT_LIMIT)))), ?_⟩
    walk_at "rd"
    by_cases h : -255 ≤ i
    · rw [if_pos h]
      have e : okC i = decide (i ≤ 255) := by simp [okC, h]
      rw [← e]
      exact ok
    · rw [if_neg h]
      have e : okC i = false := by simp [okC, h]
      rw [← e]
      exact ok
def sp_linear (K : PySem.W.Frag) (CO : Addr) : Sp := fun vs H Q E => ∃ (l : Addr) (as : List Addr) (ps : Prs) (c : Int), vs = [.ref l, .int c] ∧ SqL K H l (as.map V.ref) ∧ PrsAt H as ps ∧ ps.length ≤ 30 ∧
  (linOk ps c = true → ∀ t H', Same H H' → TermAt H' t (lin ps) c → Q (.ref t) H') ∧ (linOk ps c = false → Rz CO "limit" (.str (S (cs "term"))) H E)
theorem c_linear {f : Addr} {fd : FuncData} (D : C8.Def K mg "linear" s_linear f fd) (b : Binds K fd ["pairs", "constant"] []) {CO : Addr} (x_Oversized : ExF P w K mg base "Oversized" CO "limit") (c_in_range : C8.Cal P w K mg base 1 "in_range" sp_in_range []) (z_sorted : mg "sorted" = none) (z_all : mg "all" = none) (z_tuple : mg "tuple" = none) : CalX P w K mg base 3 "linear" (sp_linear K CO) := by
  refine calX0 D b sc_linear (fun vs H Q E h => ?_) (fun cdv A outer s H vs Q E hr h => ?_)
  · obtain ⟨_, _, _, _, rfl, _⟩ := h
    rfl
  · obtain ⟨l, as, ps, c, rfl, hl, hp, hn, ok, bad⟩ := h
    refine ⟨_, (pss_cons (ps_set (i := 2) sc_linear.nd rfl (by first | exact Or.inl rfl | exact Or.inr rfl) pe_dnewK) (pss_cons (ps_for (passes_of rfl) rfl (pi_list (pv 0)) (pg_tup (n := 2) rfl (pgs_cons (pg_name (i := 3) sc_linear.nd rfl (by first | exact Or.inl rfl | exact Or.inr rfl)) (pgs_cons (pg_name (i := 4) sc_linear.nd rfl (by first | exact Or.inl rfl | exact Or.inr rfl)) pgs_nil))) (pss_one (ps_asg (pe_op op_add (pe_dget2 (hu1 hr) (pv 2) (pv 3) pe_int ⟨by rfl, by rfl, by rfl, by rfl⟩) (pv 4)) (pg_sub (pv 2) (pv 3) (set_dict (hu1 hr)))))) (pss_cons (ps_setLc (i := 5) (own := [("name", 3)]) (g := (gName 3)) (tt := _) rfl sc_linear.nd rfl rfl (sw_true rfl rfl rfl (by decide +kernel)) (pi_list (pe_callB (call_sortedD rfl) (by rfl) z_sorted (by decide +kernel) (pa_cons (pv 2) pa_nil))) (blkOk_by (N := N_linear) (sc := C8.fnScope s_linear) (by decide +kernel)) (fun _ _ _ _ _ => (pg_name (i := 3) sc_linear.nd rfl (Or.inl rfl))) (fun _ _ _ _ _ => (pts_one (pt_cmpR (op_ne) (pe_dget (hu1 hr) (pv 2) (pv 3) (fun _ _ => rfl)) pe_int (nomark _)))) (fun _ _ _ _ _ => (pe_tup (pa_cons (pv 3) (pa_cons (pe_dget (hu1 hr) (pv 2) (pv 3) (fun _ _ => rfl)) pa_nil))))) (pss_cons (ps_setLc (i := 6) (own := [("pair", 7)]) (g := (gName 7)) (tt := tYes) rfl sc_linear.nd rfl rfl (sw_true rfl rfl rfl (by decide +kernel)) (pi_list (pv 5)) (blkOk_by (N := N_linear) (sc := C8.fnScope s_linear) (by decide +kernel)) (fun _ _ _ _ _ => (pg_name (i := 7) sc_linear.nd rfl (Or.inl rfl))) (fun _ _ _ _ _ => pts_nil) (fun _ _ _ _ _ => (pe_ix (ixT K) (pv 7) pe_int (fun _ _ => rfl)))) (pss_cons (ps_if (pt_not (pt_val (pe_callB (allK K) (by rfl) z_all (by decide +kernel) (pa_cons (pe_lc (own := [("number", 8)]) (g := (gName 8)) (tt := tYes) rfl sc_linear.nd (pi_list (pe_lst (pa_cons (pv 1) (StX.pa_star (pv 6) pa_nil)))) (blkOk_by (N := N_linear) (sc := C8.fnScope s_linear) (by decide +kernel)) (fun _ _ _ _ _ => (pg_name (i := 8) sc_linear.nd rfl (Or.inl rfl))) (fun _ _ _ _ _ => pts_nil) (fun _ _ _ _ _ => (C8.pe_c c_in_range hr (by decide) (by rfl) (pa_cons (pv 8) pa_nil)))) pa_nil)))) (pss_one (ps_raise rfl (takes_of rfl rfl rfl rfl) (pmk_ex x_Oversized hr (by decide) (by rfl) (pa_cons pe_str pa_nil)))) pss_nil) (pss_one (ps_ret (pe_tup (pa_cons (pe_callTy (tupOf K) (by rfl) z_tuple (by decide +kernel) (pa_cons (pv 5) pa_nil)) (pa_cons (pv 1) pa_nil)))))))))), ?_⟩
    walk_at "rd"
    intro D hD
    have hlD : SqL K (L2.upd H D (.dK [])) l (as.map V.ref) := (same_upd hD).seq hl
    have hal := hp.len
    obtain ⟨sm, hsm⟩ : ∃ sm : Prs, sm = sums ps := ⟨_, rfl⟩
    obtain ⟨k1, k2, k3⟩ := sums_keys ps
    rw [← hsm] at k1 k2 k3
    refine ⟨⟨_, hlD⟩, for_listN (xs := as.map V.ref) (fun i σ H2 => ∃ n k, σ = [some (V.ref l), some (V.int c), some (V.ref D), n, k, none, none, none, none] ∧ H2 D = some (.dK ((sums (ps.take i)).map ent)) ∧ Same H H2) ?_ ?_ ?_ ?_⟩
    · exact ⟨none, none, rfl, upd_same, same_upd hD⟩
    · rintro i σ H2 hi ⟨n, k, rfl, h2, s2⟩
      exact s2.seq hl
    · rintro i x σ H2 N hx ⟨n, k, rfl, h2, s2⟩ hN
      obtain ⟨a, p, ha, rfl, hpi, hpa⟩ := (hp.same s2).at hx
      have hlen : (sums (ps.take i)).length ≤ 30 := Nat.le_trans (sums_keys _).2.2 (by rw [List.length_take]; omega)
      walk_at "rd"
      refine ⟨_, SqT.of hpa, rfl, _, _, rfl, _, _, rfl, rfl, .inl ⟨_, .inl h2⟩, _, DGet.k (k := Sum.inr p.1) h2, ?_⟩
      rw [val_ent, getD_int]
      refine ⟨_, rfl, _, rfl, _, DPut.k (k := Sum.inr p.1) h2 (by rw [List.length_map]; exact smallt (by omega)), ?_⟩
      refine hN _ _ ⟨_, _, rfl, ?_, Dw.Same.new s2 hD⟩
      rw [upd_same, put_ent, List.take_add_one, hpi]
      show _ = some (HO.dK ((sums (ps.take i ++ [p])).map ent))
      rw [sums_snoc]
      rfl
    · rintro σ H2 ⟨n, k, rfl, h2, s2⟩
      rw [List.length_map, hal, List.take_length, ← hsm] at h2
      walk_at "rd"
      refine ⟨_, .of h2, keys sm, by simp [keys, ent], by simp only [keys, List.length_map]; omega, fun ys Y hperm hsort hY => ?_⟩
      have hks : ∀ z ∈ ys, ∃ v, look sm z = some v := fun z hz => look_some (hperm.mem_iff.mp hz)
      have hyl : ys.length ≤ 30 := by
        rw [hperm.length_eq]
        simp only [keys, List.length_map]
        omega
      have h2Y : (upd H2 Y (.lst (ys.map V.str))) D = some (.dK (sm.map ent)) := (same_upd hY) _ _ h2
      have s2Y : Same H (upd H2 Y (.lst (ys.map V.str))) := s2.trans (same_upd hY)
      refine ⟨⟨_, SqL.of upd_same⟩, fun G hG => ?_⟩
      obtain ⟨HY, hHY⟩ : ∃ HY, HY = upd H2 Y (.lst (ys.map V.str)) := ⟨_, rfl⟩
      have hYY : HY Y = some (.lst (ys.map V.str)) := by rw [hHY, upd_same]
      rw [← hHY] at h2Y s2Y hG ⊢
      obtain ⟨F, hF⟩ : ∃ F : Str → Str × Int, F = fun z => (z, (look sm z).getD 0) := ⟨_, rfl⟩
      refine lc_listN (xs := ys.map V.str) (fun i H4 => ∃ bs : List Addr, H4 G = some (.lst (bs.map V.ref)) ∧ PrsAt H4 bs (((ys.take i).map F).filter fun p => decide (p.2 ≠ 0)) ∧ bs.length ≤ i ∧ Same HY H4) ?_ ?_ ?_ ?_
      · exact ⟨[], upd_same, trivial, Nat.le_refl _, same_upd hG⟩
      · rintro i H4 _ ⟨bs, h4, p4, b4, s4⟩
        exact SqL.of (s4 _ _ hYY)
      · rintro i x H4 N hx ⟨bs, h4, p4, b4, s4⟩ hN
        rw [List.getElem?_map] at hx
        obtain ⟨z, hz, rfl⟩ := Option.map_eq_some_iff.mp hx
        obtain ⟨v, hv⟩ := hks z (List.mem_of_getElem? hz)
        have hil := (List.getElem?_eq_some_iff.mp hz).1
        have hget : DGet H4 D (.str z) (some (.int v)) := by
          have e := DGet.k (k := Sum.inr z) (s4 _ _ h2Y)
          rw [val_ent, hv] at e
          exact e
        walk_at "rd"
        have htk : (((ys.take (i + 1)).map F).filter fun p => decide (p.2 ≠ 0)) = (((ys.take i).map F).filter fun p => decide (p.2 ≠ 0)) ++ (if v = 0 then [] else [(z, v)]) := by
          rw [List.take_add_one, hz, List.map_append, List.filter_append]
          congr 1
          have e : F z = (z, v) := by rw [hF]; simp [hv]
          show ([F z].filter fun p => decide (p.2 ≠ 0)) = _
          rw [e]
          by_cases h0 : v = 0
          · rw [if_pos h0]; simp [h0]
          · rw [if_neg h0]; simp [h0]
        refine ⟨.int v, hget, rfl, ite2 (fun h0 => ?_) (fun h0 => ?_)⟩
        · rw [if_pos (V.int.inj h0), List.append_nil] at htk
          exact hN _ ⟨bs, h4, by rw [htk]; exact p4, by omega, s4⟩
        · rw [if_neg (fun e => h0 (by rw [e]))] at htk
          refine ⟨.int v, hget, by decide, fun T hT => ⟨_, (same_upd hT) _ _ h4, smallt (by rw [List.length_map]; omega), hN _ ⟨bs ++ [T], ?_, ?_, ?_, ?_⟩⟩⟩
          · rw [upd_same, List.map_append]
            rfl
          · have hTG : T ≠ G := (ne_of_none h4 hT).symm
            rw [htk]
            refine PrsAt.snoc (PrsAt.keep ?_ But.upd (p4.same (same_upd hT))) ?_
            · intro x y e
              rw [(same_upd hT) _ _ h4] at e
              cases e
            · rw [upd_ne hTG, upd_same]
          · rw [List.length_append]
            exact Nat.succ_le_succ b4
          · exact Dw.Same.new (s4.trans (same_upd hT)) hG
      · rintro H4 ⟨bs, h4, p4, b4, s4⟩
        rw [List.length_map, List.take_length] at p4
        rw [List.length_map] at b4
        have hlin : ((ys.map F).filter fun p => decide (p.2 ≠ 0)) = lin ps := by
          have e := srt_of hperm hsort
          unfold lin
          rw [← hsm, ← e, hF]
        rw [hlin] at p4
        have hbl := p4.len
        refine ⟨⟨_, SqL.of h4⟩, fun G2 hG2 => ?_⟩
        refine lc_listN (xs := bs.map V.ref) (fun i H5 => H5 G2 = some (.lst (((lin ps).take i).map fun p => V.int p.2)) ∧ Same H4 H5) ?_ ?_ ?_ ?_
        · exact ⟨upd_same, same_upd hG2⟩
        · rintro i H5 _ ⟨_, s5⟩
          exact SqL.of (s5 _ _ h4)
        · rintro i x H5 N hx ⟨h5, s5⟩ hN
          obtain ⟨a, p, ha, rfl, hpi, hpa⟩ := (p4.same s5).at hx
          walk_at "rd"
          refine ⟨_, SqT.of hpa, _, atI_nat (j := 1) rfl, _, h5, smallt (by rw [List.length_map, List.length_take]; omega), hN _ ⟨?_, Dw.Same.new s5 hG2⟩⟩
          rw [upd_same, List.take_add_one, hpi, List.map_append]
          rfl
        · rintro H5 ⟨h5, s5⟩
          rw [List.length_map, hbl, List.take_length] at h5
          refine ⟨_, .inr (SqL.of h5), by rw [List.length_map]; exact small (by omega), fun R hR => ⟨⟨_, SqL.of upd_same⟩, fun G3 hG3 => ?_⟩⟩
          obtain ⟨L, hL⟩ : ∃ L : List Int, L = c :: (lin ps).map (·.2) := ⟨_, rfl⟩
          have hLv : (V.int c :: (lin ps).map fun p => V.int p.2) = L.map V.int := by
            rw [hL, List.map_cons, List.map_map]
            rfl
          have hLl : L.length ≤ 40 := by
            rw [hL, List.length_cons, List.length_map]
            omega
          rw [hLv] at hG3 ⊢
          have sR : Same H (upd H5 R (.lst (L.map V.int))) := ((s2Y.trans s4).trans s5).trans (same_upd hR)
          obtain ⟨HR, hHR⟩ : ∃ HR, HR = upd H5 R (.lst (L.map V.int)) := ⟨_, rfl⟩
          have hRR : HR R = some (.lst (L.map V.int)) := by rw [hHR, upd_same]
          have sR4 : Same H4 HR := by
            rw [hHR]
            exact s5.trans (same_upd hR)
          rw [← hHR] at hG3 sR ⊢
          refine lc_listN (xs := L.map V.int) (fun i H6 => H6 G3 = some (.lst (((L.take i).map okC).map V.bl)) ∧ Same HR H6) ?_ ?_ ?_ ?_
          · exact ⟨upd_same, same_upd hG3⟩
          · rintro i H6 _ ⟨_, s6⟩
            exact SqL.of (s6 _ _ hRR)
          · rintro i x H6 N hx ⟨h6, s6⟩ hN
            rw [List.getElem?_map] at hx
            obtain ⟨j, hj, rfl⟩ := Option.map_eq_some_iff.mp hx
            walk_at "rd"
            refine ⟨j, rfl, _, h6, smallt (by rw [List.length_map, List.length_map, List.length_take]; omega), hN _ ⟨?_, Dw.Same.new s6 hG3⟩⟩
            rw [upd_same, List.take_add_one, hj, List.map_append, List.map_append]
            rfl
          · rintro H6 ⟨h6, s6⟩
            rw [List.length_map, List.take_length] at h6
            have hall : (L.map okC).all id = linOk ps c := by
              rw [List.all_map, hL]
              rfl
            have s46 : Same H4 H6 := sR4.trans s6
            refine ⟨_, SqL.of h6, ?_⟩
            rw [hall]
            refine ite2 (fun hb => ⟨by decide, fun a ha => raise_rz ((bad hb).same (sR.trans s6)) ha⟩) (fun hb => ?_)
            have hb2 : linOk ps c = true := by
              cases e : linOk ps c with
              | true => rfl
              | false => exact absurd e hb
            refine ⟨_, .inl ⟨SqL.of (s46 _ _ h4), fun q hq => ⟨by decide, fun t ht => ok hb2 t _ (((sR.trans s6).trans (same_upd hq)).trans (same_upd ht)) ⟨q, bs, upd_same, (same_upd ht) _ _ upd_same, ((p4.same s46).same (same_upd hq)).same (same_upd ht)⟩⟩⟩⟩
abbrev LinEnd (CO : Addr) (ps : Prs) (c : Int) (H : Hp) (Q : VK) (E : XK) : Prop :=
  (linOk ps c = true → ∀ t H', Same H H' → TermAt H' t (lin ps) c → Q (.ref t) H') ∧ (linOk ps c = false → Rz CO "limit" (.str (S (cs "term"))) H E)
theorem linEnd_same {CO : Addr} {ps : Prs} {c : Int} {H H1 : Hp} {Q : VK} {E : XK} (h : LinEnd CO ps c H Q E) (e : Same H H1) : LinEnd CO ps c H1 Q E :=
  ⟨fun o t H' s x => h.1 o t H' (e.trans s) x, fun o => (h.2 o).same e⟩
def sp_plus (CO : Addr) : Sp := fun vs H Q E => ∃ (t1 t2 : Addr) (p1 p2 : Prs) (c1 c2 : Int), vs = [.ref t1, .ref t2] ∧ TermAt H t1 p1 c1 ∧ TermAt H t2 p2 c2 ∧ (p1 ++ p2).length ≤ 30 ∧ LinEnd CO (p1 ++ p2) (c1 + c2) H Q E
theorem c_plus {f : Addr} {fd : FuncData} (D : C8.Def K mg "plus" s_plus f fd) (b : Binds K fd ["one", "two"] []) {CO : Addr} (c_linear : CalX P w K mg base 3 "linear" (sp_linear K CO)) : CalX P w K mg base 4 "plus" (sp_plus CO) := by
  refine calX0 D b sc_plus (fun vs H Q E h => ?_) (fun cdv A outer s H vs Q E hr h => ?_)
  · obtain ⟨_, _, _, _, _, _, rfl, _⟩ := h
    rfl
  · obtain ⟨t1, t2, p1, p2, c1, c2, rfl, ⟨q1, a1, h1, g1, r1⟩, ⟨q2, a2, h2, g2, r2⟩, hn, ok⟩ := h
    refine ⟨_, (pss_one (ps_ret (pe_cx c_linear hr (by decide) (passes_call (takes_of rfl rfl rfl rfl) (fun _ _ _ _ h => h)) (by rfl) (pa_cons (pe_lst (StX.pa_star (pe_ix (ixT K) (pv 0) pe_int (fun _ _ => rfl)) (StX.pa_star (pe_ix (ixT K) (pv 1) pe_int (fun _ _ => rfl)) pa_nil))) (pa_cons (pe_op op_add (pe_ix (ixT K) (pv 0) pe_int (fun _ _ => rfl)) (pe_ix (ixT K) (pv 1) pe_int (fun _ _ => rfl))) pa_nil))))), ?_⟩
    walk_at "rd"
    have hl := (r1.append r2).len
    refine ⟨_, SqT.of h1, _, atI_nat (j := 0) rfl, q1, rfl, _, .inl (SqT.of g1), _, SqT.of h2, _, atI_nat (j := 0) rfl, q2, rfl, _, .inl (SqT.of g2), by rw [List.length_append, List.length_map, List.length_map]; exact small (by rw [List.length_append] at hl; omega), fun p hp => ?_⟩
    have sp := same_upd (o := .lst (a1.map V.ref ++ a2.map V.ref)) hp
    refine ⟨_, SqT.of (sp _ _ h1), _, atI_nat (j := 1) rfl, _, SqT.of (sp _ _ h2), _, atI_nat (j := 1) rfl, _, rfl, _, rfl, ?_⟩
    exact ⟨p, a1 ++ a2, p1 ++ p2, c1 + c2, rfl, by rw [List.map_append]; exact SqL.of upd_same, (r1.append r2).same sp, hn, linEnd_same ok sp⟩
def negP (p : Str × Int) : Str × Int := (p.1, -p.2)
def sp_minus (CO : Addr) : Sp := fun vs H Q E => ∃ (t1 t2 : Addr) (p1 p2 : Prs) (c1 c2 : Int), vs = [.ref t1, .ref t2] ∧ TermAt H t1 p1 c1 ∧ TermAt H t2 p2 c2 ∧ (p1 ++ p2.map negP).length ≤ 30 ∧ LinEnd CO (p1 ++ p2.map negP) (c1 - c2) H Q E
theorem c_minus {f : Addr} {fd : FuncData} (D : C8.Def K mg "minus" s_minus f fd) (b : Binds K fd ["one", "two"] []) {CO : Addr} (c_linear : CalX P w K mg base 3 "linear" (sp_linear K CO)) : CalX P w K mg base 4 "minus" (sp_minus CO) := by
  refine calX0 D b sc_minus (fun vs H Q E h => ?_) (fun cdv A outer s H vs Q E hr h => ?_)
  · obtain ⟨_, _, _, _, _, _, rfl, _⟩ := h
    rfl
  · obtain ⟨t1, t2, p1, p2, c1, c2, rfl, ⟨q1, a1, h1, g1, r1⟩, ⟨q2, a2, h2, g2, r2⟩, hn, ok⟩ := h
    refine ⟨_, (pss_cons (ps_setLc (i := 2) (own := [("name", 3), ("coefficient", 4)]) (g := (gTup K 2 (gCons (gName 3) (gCons (gName 4) gNil)))) (tt := tYes) rfl sc_minus.nd rfl rfl (sw_true rfl rfl rfl (by decide +kernel)) (pi_tup (pe_ix (ixT K) (pv 1) pe_int (fun _ _ => rfl))) (blkOk_by (N := N_minus) (sc := C8.fnScope s_minus) (by decide +kernel)) (fun _ _ _ _ _ => (pg_tup (n := 2) rfl (pgs_cons (pg_name (i := 3) sc_minus.nd rfl (Or.inl rfl)) (pgs_cons (pg_name (i := 4) sc_minus.nd rfl (Or.inl rfl)) pgs_nil)))) (fun _ _ _ _ _ => pts_nil) (fun _ _ _ _ _ => (pe_tup (pa_cons (pv 3) (pa_cons (pe_un un_neg (pv 4)) pa_nil))))) (pss_one (ps_ret (pe_cx c_linear hr (by decide) (passes_call (takes_of rfl rfl rfl rfl) (fun _ _ _ _ h => h)) (by rfl) (pa_cons (pe_lst (StX.pa_star (pe_ix (ixT K) (pv 0) pe_int (fun _ _ => rfl)) (StX.pa_star (pv 2) pa_nil))) (pa_cons (pe_op op_sub (pe_ix (ixT K) (pv 0) pe_int (fun _ _ => rfl)) (pe_ix (ixT K) (pv 1) pe_int (fun _ _ => rfl))) pa_nil)))))), ?_⟩
    walk_at "rd"
    have hn2 : p2.length ≤ 30 := by
      rw [List.length_append, List.length_map] at hn
      omega
    refine ⟨_, SqT.of h2, _, atI_nat (j := 0) rfl, q2, rfl, ⟨_, SqT.of g2⟩, fun D hD => ?_⟩
    refine lc_tupN (xs := a2.map V.ref) (fun i H5 => ∃ bs : List Addr, H5 D = some (.lst (bs.map V.ref)) ∧ PrsAt H5 bs ((p2.take i).map negP) ∧ Same H H5) ?_ ?_ ?_ ?_
    · exact ⟨[], upd_same, trivial, same_upd hD⟩
    · rintro i H5 _ ⟨bs, h5, p5, s5⟩
      exact SqT.of (s5 _ _ g2)
    · rintro i x H5 N hx ⟨bs, h5, p5, s5⟩ hN
      obtain ⟨a, p, ha, rfl, hpi, hpa⟩ := (r2.same s5).at hx
      have hil := (List.getElem?_eq_some_iff.mp hpi).1
      have hbl := p5.len
      rw [List.length_map, List.length_take] at hbl
      have fin : ∀ T, H5 T = none → (p9 : Str × Int) → p9 = negP p → ∃ acc, (upd H5 T (.tup [V.str p9.1, V.int p9.2])) D = some (.lst acc) ∧ acc.length < sizeLine ∧ N (upd (upd H5 T (.tup [V.str p9.1, V.int p9.2])) D (.lst (acc ++ [V.ref T]))) := by
        intro T hT p9 e2
        refine ⟨_, (same_upd hT) _ _ h5, smallt (by rw [List.length_map]; omega), hN _ ⟨bs ++ [T], ?_, ?_, Dw.Same.new (s5.trans (same_upd hT)) hD⟩⟩
        · rw [upd_same, List.map_append]
          rfl
        · have hTD : T ≠ D := (ne_of_none h5 hT).symm
          rw [List.take_add_one, hpi, List.map_append]
          refine PrsAt.snoc (PrsAt.keep ?_ But.upd (p5.same (same_upd hT))) ?_
          · intro x y e
            rw [(same_upd hT) _ _ h5] at e
            cases e
          · rw [upd_ne hTD, upd_same, e2]
      walk_at "rd"
      exact ⟨_, SqT.of hpa, rfl, _, _, rfl, _, _, rfl, rfl, _, rfl, by decide, fun T hT => fin T hT (negP p) rfl⟩
    · rintro H5 ⟨bs, h5, p5, s5⟩
      rw [List.length_map, r2.len, List.take_length] at p5
      refine ⟨_, SqT.of (s5 _ _ h1), _, atI_nat (j := 0) rfl, q1, rfl, _, .inl (SqT.of (s5 _ _ g1)), _, .inr (SqL.of h5), ?_, fun p hp => ?_⟩
      · have e1 := r1.len
        have e2 := p5.len
        rw [List.length_append] at hn
        rw [List.length_append, List.length_map, List.length_map]
        exact small (by omega)
      have sp := s5.trans (same_upd (o := .lst (a1.map V.ref ++ bs.map V.ref)) hp)
      refine ⟨_, SqT.of (sp _ _ h1), _, atI_nat (j := 1) rfl, _, SqT.of (sp _ _ h2), _, atI_nat (j := 1) rfl, _, rfl, _, rfl, ?_⟩
      exact ⟨p, a1 ++ bs, p1 ++ p2.map negP, c1 - c2, rfl, by rw [List.map_append]; exact SqL.of upd_same, (r1.same sp).append (p5.same (same_upd hp)), hn, linEnd_same ok sp⟩
def mulP (f : Int) (p : Str × Int) : Str × Int := (p.1, f * p.2)
def sp_times (CO : Addr) : Sp := fun vs H Q E => ∃ (f : Int) (t : Addr) (ps : Prs) (c : Int), vs = [.int f, .ref t] ∧ -10 ≤ f ∧ f ≤ 10 ∧ TermAt H t ps c ∧ ps.length ≤ 30 ∧ LinEnd CO (ps.map (mulP f)) (f * c) H Q E
theorem c_times {f : Addr} {fd : FuncData} (D : C8.Def K mg "times" s_times f fd) (b : Binds K fd ["factor", "term"] []) {CO : Addr} (c_linear : CalX P w K mg base 3 "linear" (sp_linear K CO)) : CalX P w K mg base 4 "times" (sp_times CO) := by
  refine calX0 D b sc_times (fun vs H Q E h => ?_) (fun cdv A outer s H vs Q E hr h => ?_)
  · obtain ⟨_, _, _, _, rfl, _⟩ := h
    rfl
  · obtain ⟨f1, t, ps, c, rfl, f0, f9, ⟨q, as, h1, g1, r1⟩, hn, ok⟩ := h
    refine ⟨_, (pss_cons (ps_asg (pv 1) (pg_tup (n := 2) rfl (pgs_cons (pg_name (i := 2) sc_times.nd rfl (by first | exact Or.inl rfl | exact Or.inr rfl)) (pgs_cons (pg_name (i := 3) sc_times.nd rfl (by first | exact Or.inl rfl | exact Or.inr rfl)) pgs_nil)))) (pss_one (ps_ret (pe_cx c_linear hr (by decide) (passes_call (takes_of rfl rfl rfl rfl) (fun _ _ _ _ h => h)) (by rfl) (pa_cons (pe_lc (own := [("name", 4), ("coefficient", 5)]) (g := (gTup K 2 (gCons (gName 4) (gCons (gName 5) gNil)))) (tt := tYes) rfl sc_times.nd (pi_tup (pv 2)) (blkOk_by (N := N_times) (sc := C8.fnScope s_times) (by decide +kernel)) (fun _ _ _ _ _ => (pg_tup (n := 2) rfl (pgs_cons (pg_name (i := 4) sc_times.nd rfl (Or.inl rfl)) (pgs_cons (pg_name (i := 5) sc_times.nd rfl (Or.inl rfl)) pgs_nil)))) (fun _ _ _ _ _ => pts_nil) (fun _ _ _ _ _ => (pe_tup (pa_cons (pv 4) (pa_cons (pe_op op_mul (pv 0) (pv 5)) pa_nil))))) (pa_cons (pe_op op_mul (pv 0) (pv 3)) pa_nil)))))), ?_⟩
    walk_at "rd"
    refine ⟨_, SqT.of h1, rfl, _, _, rfl, _, _, rfl, rfl, q, rfl, ⟨_, SqT.of g1⟩, fun D hD => ?_⟩
    refine lc_tupN (xs := as.map V.ref) (fun i H5 => ∃ bs : List Addr, H5 D = some (.lst (bs.map V.ref)) ∧ PrsAt H5 bs ((ps.take i).map (mulP f1)) ∧ Same H H5) ?_ ?_ ?_ ?_
    · exact ⟨[], upd_same, trivial, same_upd hD⟩
    · rintro i H5 _ ⟨bs, h5, p5, s5⟩
      exact SqT.of (s5 _ _ g1)
    · rintro i x H5 N hx ⟨bs, h5, p5, s5⟩ hN
      obtain ⟨a, p, ha, rfl, hpi, hpa⟩ := (r1.same s5).at hx
      have hil := (List.getElem?_eq_some_iff.mp hpi).1
      have hbl := p5.len
      rw [List.length_map, List.length_take] at hbl
      have fin : ∀ T, H5 T = none → (p9 : Str × Int) → p9 = (mulP f1) p → ∃ acc, (upd H5 T (.tup [V.str p9.1, V.int p9.2])) D = some (.lst acc) ∧ acc.length < sizeLine ∧ N (upd (upd H5 T (.tup [V.str p9.1, V.int p9.2])) D (.lst (acc ++ [V.ref T]))) := by
        intro T hT p9 e2
        refine ⟨_, (same_upd hT) _ _ h5, smallt (by rw [List.length_map]; omega), hN _ ⟨bs ++ [T], ?_, ?_, Dw.Same.new (s5.trans (same_upd hT)) hD⟩⟩
        · rw [upd_same, List.map_append]
          rfl
        · have hTD : T ≠ D := (ne_of_none h5 hT).symm
          rw [List.take_add_one, hpi, List.map_append]
          refine PrsAt.snoc (PrsAt.keep ?_ But.upd (p5.same (same_upd hT))) ?_
          · intro x y e
            rw [(same_upd hT) _ _ h5] at e
            cases e
          · rw [upd_ne hTD, upd_same, e2]
      walk_at "rd"
      exact ⟨_, SqT.of hpa, rfl, _, _, rfl, _, _, rfl, rfl, _, rfl, .inl ⟨by omega, by omega⟩, by decide, fun T hT => fin T hT (mulP f1 p) rfl⟩
    · rintro H5 ⟨bs, h5, p5, s5⟩
      rw [List.length_map, r1.len, List.take_length] at p5
      exact ⟨_, rfl, .inl ⟨by omega, by omega⟩, D, bs, ps.map (mulP f1), f1 * c, rfl, SqL.of h5, p5, by rw [List.length_map]; exact hn, linEnd_same ok s5⟩
def renP (r : Str → Str) (p : Str × Int) : Str × Int := (r p.1, p.2)
def sp_rename (CO : Addr) : Sp := fun vs H Q E => ∃ (t d : Addr) (ps : Prs) (c : Int) (kvs : List (Key × V)) (r : Str → Str), vs = [.ref t, .ref d] ∧ TermAt H t ps c ∧ H d = some (.dK kvs) ∧ (∀ z, (valV kvs (Sum.inr z)).getD (.str z) = .str (r z)) ∧ ps.length ≤ 30 ∧ LinEnd CO (ps.map (renP r)) c H Q E
theorem c_rename_term {f : Addr} {fd : FuncData} (D : C8.Def K mg "rename_term" s_rename_term f fd) (b : Binds K fd ["term", "names"] []) {CO : Addr} (c_linear : CalX P w K mg base 3 "linear" (sp_linear K CO)) : CalX P w K mg base 4 "rename_term" (sp_rename CO) := by
  refine calX0 D b sc_rename_term (fun vs H Q E h => ?_) (fun cdv A outer s H vs Q E hr h => ?_)
  · obtain ⟨_, _, _, _, _, _, rfl, _⟩ := h
    rfl
  · obtain ⟨t, d, ps, c, kvs, r, rfl, ⟨q, as, h1, g1, r1⟩, hd, hr2, hn, ok⟩ := h
    refine ⟨_, (pss_cons (ps_asg (pv 0) (pg_tup (n := 2) rfl (pgs_cons (pg_name (i := 2) sc_rename_term.nd rfl (by first | exact Or.inl rfl | exact Or.inr rfl)) (pgs_cons (pg_name (i := 3) sc_rename_term.nd rfl (by first | exact Or.inl rfl | exact Or.inr rfl)) pgs_nil)))) (pss_one (ps_ret (pe_cx c_linear hr (by decide) (passes_call (takes_of rfl rfl rfl rfl) (fun _ _ _ _ h => h)) (by rfl) (pa_cons (pe_lc (own := [("name", 4), ("coefficient", 5)]) (g := (gTup K 2 (gCons (gName 4) (gCons (gName 5) gNil)))) (tt := tYes) rfl sc_rename_term.nd (pi_tup (pv 2)) (blkOk_by (N := N_rename_term) (sc := C8.fnScope s_rename_term) (by decide +kernel)) (fun _ _ _ _ _ => (pg_tup (n := 2) rfl (pgs_cons (pg_name (i := 4) sc_rename_term.nd rfl (Or.inl rfl)) (pgs_cons (pg_name (i := 5) sc_rename_term.nd rfl (Or.inl rfl)) pgs_nil)))) (fun _ _ _ _ _ => pts_nil) (fun _ _ _ _ _ => (pe_tup (pa_cons (pe_dget2 (hu1 hr) (pv 1) (pv 4) (pv 4) ⟨by rfl, by rfl, by rfl, by rfl⟩) (pa_cons (pv 5) pa_nil))))) (pa_cons (pv 3) pa_nil)))))), ?_⟩
    walk_at "rd"
    refine ⟨_, SqT.of h1, rfl, _, _, rfl, _, _, rfl, rfl, q, rfl, ⟨_, SqT.of g1⟩, fun D hD => ?_⟩
    refine lc_tupN (xs := as.map V.ref) (fun i H5 => ∃ bs : List Addr, H5 D = some (.lst (bs.map V.ref)) ∧ PrsAt H5 bs ((ps.take i).map (renP r)) ∧ Same H H5) ?_ ?_ ?_ ?_
    · exact ⟨[], upd_same, trivial, same_upd hD⟩
    · rintro i H5 _ ⟨bs, h5, p5, s5⟩
      exact SqT.of (s5 _ _ g1)
    · rintro i x H5 N hx ⟨bs, h5, p5, s5⟩ hN
      obtain ⟨a, p, ha, rfl, hpi, hpa⟩ := (r1.same s5).at hx
      have hil := (List.getElem?_eq_some_iff.mp hpi).1
      have hbl := p5.len
      rw [List.length_map, List.length_take] at hbl
      have fin : ∀ T, H5 T = none → (p9 : Str × Int) → p9 = (renP r) p → ∃ acc, (upd H5 T (.tup [V.str p9.1, V.int p9.2])) D = some (.lst acc) ∧ acc.length < sizeLine ∧ N (upd (upd H5 T (.tup [V.str p9.1, V.int p9.2])) D (.lst (acc ++ [V.ref T]))) := by
        intro T hT p9 e2
        refine ⟨_, (same_upd hT) _ _ h5, smallt (by rw [List.length_map]; omega), hN _ ⟨bs ++ [T], ?_, ?_, Dw.Same.new (s5.trans (same_upd hT)) hD⟩⟩
        · rw [upd_same, List.map_append]
          rfl
        · have hTD : T ≠ D := (ne_of_none h5 hT).symm
          rw [List.take_add_one, hpi, List.map_append]
          refine PrsAt.snoc (PrsAt.keep ?_ But.upd (p5.same (same_upd hT))) ?_
          · intro x y e
            rw [(same_upd hT) _ _ h5] at e
            cases e
          · rw [upd_ne hTD, upd_same, e2]
      walk_at "rd"
      refine ⟨_, SqT.of hpa, rfl, _, _, rfl, _, _, rfl, rfl, .inl ⟨_, .inl (s5 _ _ hd)⟩, _, DGet.k (k := Sum.inr p.1) (s5 _ _ hd), by decide, fun T hT => ?_⟩
      rw [hr2]
      exact fin T hT (renP r p) rfl
    · rintro H5 ⟨bs, h5, p5, s5⟩
      rw [List.length_map, r1.len, List.take_length] at p5
      exact ⟨D, bs, ps.map (renP r), c, rfl, SqL.of h5, p5, by rw [List.length_map]; exact hn, linEnd_same ok s5⟩
def sp_sum (K : PySem.W.Frag) : Sp := fun vs H Q _ => ∃ (l : Addr) (as : List Addr) (ps : Prs) (c : Int), vs = [.ref l, .int c] ∧ SqL K H l (as.map V.ref) ∧ PrsAt H as ps ∧ ps.length ≤ 30 ∧
  (linOk ps c = true → ∀ t H', Same H H' → TermAt H' t (lin ps) c → Q (.ref t) H') ∧ (linOk ps c = false → ∀ H', Same H H' → Q (.str (S (cs "oversized"))) H')
theorem c__law_sum {f : Addr} {fd : FuncData} (D : C8.Def K mg "_law_sum" s__law_sum f fd) (b : Binds K fd ["pairs", "constant"] []) (z_sorted : mg "sorted" = none) (z_tuple : mg "tuple" = none) : C8.Cal P w K mg base 2 "_law_sum" (sp_sum K) [] := by
  refine C8.cal0 D b .nil sc__law_sum (fun vs H Q E h => ?_) (fun cdv A outer s H vs Q E hr h => ?_)
  · obtain ⟨_, _, _, _, rfl, _⟩ := h
    rfl
  · obtain ⟨l, as, ps, c, rfl, hl, hp, hn, ok, bad⟩ := h
    refine ⟨_, (pss_cons (ps_set (i := 2) sc__law_sum.nd rfl (by first | exact Or.inl rfl | exact Or.inr rfl) pe_dnewK) (pss_cons (ps_for PassesOwn.never rfl (pi_list (pv 0)) (pg_name (i := 3) sc__law_sum.nd rfl (by first | exact Or.inl rfl | exact Or.inr rfl)) (pss_one (ps_asg (pe_op op_add (pe_dget2 (hu1 hr) (pv 2) (pe_ix (ixT K) (pv 3) pe_int (fun _ _ => rfl)) pe_int ⟨by rfl, by rfl, by rfl, by rfl⟩) (pe_ix (ixT K) (pv 3) pe_int (fun _ _ => rfl))) (pg_sub (pv 2) (pe_ix (ixT K) (pv 3) pe_int (fun _ _ => rfl)) (set_dict (hu1 hr)))))) (pss_cons (ps_setLc (i := 4) (own := [("name", 6)]) (g := (gName 6)) (tt := tYes) rfl sc__law_sum.nd rfl rfl (sw_true rfl rfl rfl (by decide +kernel)) (pi_list (pe_callB (call_sortedD rfl) (by rfl) z_sorted (by decide +kernel) (pa_cons (pv 2) pa_nil))) (blkOk_by (N := N__law_sum) (sc := C8.fnScope s__law_sum) (by decide +kernel)) (fun _ _ _ _ _ => (pg_name (i := 6) sc__law_sum.nd rfl (Or.inl rfl))) (fun _ _ _ _ _ => pts_nil) (fun _ _ _ _ _ => (pe_tup (pa_cons (pv 6) (pa_cons (pe_dget (hu1 hr) (pv 2) (pv 6) (fun _ _ => rfl)) pa_nil))))) (pss_cons (ps_setLc (i := 4) (own := [("pair", 3)]) (g := (gName 3)) (tt := _) rfl sc__law_sum.nd rfl rfl (sw_true rfl rfl rfl (by decide +kernel)) (pi_list (pv 4)) (blkOk_by (N := N__law_sum) (sc := C8.fnScope s__law_sum) (by decide +kernel)) (fun _ _ _ _ _ => (pg_name (i := 3) sc__law_sum.nd rfl (Or.inl rfl))) (fun _ _ _ _ _ => (pts_one (pt_cmpR (op_ne) (pe_ix (ixT K) (pv 3) pe_int (fun _ _ => rfl)) pe_int (nomark _)))) (fun _ _ _ _ _ => (pv 3))) (pss_cons (ps_for PassesOwn.never rfl (pi_list (pe_op op_cat (pe_lst (pa_cons (pv 1) pa_nil)) (pe_lc (own := [("pair", 3)]) (g := (gName 3)) (tt := tYes) rfl sc__law_sum.nd (pi_list (pv 4)) (blkOk_by (N := N__law_sum) (sc := C8.fnScope s__law_sum) (by decide +kernel)) (fun _ _ _ _ _ => (pg_name (i := 3) sc__law_sum.nd rfl (Or.inl rfl))) (fun _ _ _ _ _ => pts_nil) (fun _ _ _ _ _ => (pe_ix (ixT K) (pv 3) pe_int (fun _ _ => rfl)))))) (pg_name (i := 5) sc__law_sum.nd rfl (by first | exact Or.inl rfl | exact Or.inr rfl)) (pss_one (ps_if (PW.pt (pw_or (pt_cmpR (op_lt) (pv 5) (pe_op op_sub pe_int pe_int) (nomark _)) (pw_or1 (pt_cmpR (op_gt) (pv 5) pe_int (nomark _))))) (pss_one (ps_ret pe_str)) pss_nil))) (pss_one (ps_ret (pe_tup (pa_cons (pe_callTy (tupOf K) (by rfl) z_tuple (by decide +kernel) (pa_cons (pv 4) pa_nil)) (pa_cons (pv 1) pa_nil)))))))))), ?_⟩
    walk_at "rd"
    intro D hD
    have hlD : SqL K (L2.upd H D (.dK [])) l (as.map V.ref) := (same_upd hD).seq hl
    have hal := hp.len
    obtain ⟨sm, hsm⟩ : ∃ sm : Prs, sm = sums ps := ⟨_, rfl⟩
    obtain ⟨k1, k2, k3⟩ := sums_keys ps
    rw [← hsm] at k1 k2 k3
    refine ⟨⟨_, hlD⟩, for_listN (xs := as.map V.ref) (fun i σ H2 => ∃ n, σ = [some (V.ref l), some (V.int c), some (V.ref D), n, none, none, none] ∧ H2 D = some (.dK ((sums (ps.take i)).map ent)) ∧ Same H H2) ?_ ?_ ?_ ?_⟩
    · exact ⟨none, rfl, upd_same, same_upd hD⟩
    · rintro i σ H2 hi ⟨n, rfl, h2, s2⟩
      exact s2.seq hl
    · rintro i x σ H2 N hx ⟨n, rfl, h2, s2⟩ hN
      obtain ⟨a, p, ha, rfl, hpi, hpa⟩ := (hp.same s2).at hx
      have hlen : (sums (ps.take i)).length ≤ 30 := Nat.le_trans (sums_keys _).2.2 (by rw [List.length_take]; omega)
      walk_at "rd"
      refine ⟨.inl ⟨_, .inl h2⟩, _, SqT.of hpa, _, atI_nat (j := 0) rfl, _, DGet.k (k := Sum.inr p.1) h2, _, SqT.of hpa, _, atI_nat (j := 1) rfl, ?_⟩
      rw [val_ent, getD_int]
      refine ⟨_, rfl, _, rfl, _, SqT.of hpa, _, atI_nat (j := 0) rfl, _, DPut.k (k := Sum.inr p.1) h2 (by rw [List.length_map]; exact smallt (by omega)), ?_⟩
      refine hN _ _ ⟨_, rfl, ?_, Dw.Same.new s2 hD⟩
      rw [upd_same, put_ent, List.take_add_one, hpi]
      show _ = some (HO.dK ((sums (ps.take i ++ [p])).map ent))
      rw [sums_snoc]
      rfl
    · rintro σ H2 ⟨n, rfl, h2, s2⟩
      rw [List.length_map, hal, List.take_length, ← hsm] at h2
      walk_at "rd"
      refine ⟨_, .of h2, keys sm, by simp [keys, ent], by simp only [keys, List.length_map]; omega, fun ys Y hperm hsort hY => ?_⟩
      have hks : ∀ z ∈ ys, ∃ v, look sm z = some v := fun z hz => look_some (hperm.mem_iff.mp hz)
      have hyl : ys.length ≤ 30 := by
        rw [hperm.length_eq]
        simp only [keys, List.length_map]
        omega
      have h2Y : (upd H2 Y (.lst (ys.map V.str))) D = some (.dK (sm.map ent)) := (same_upd hY) _ _ h2
      have s2Y : Same H (upd H2 Y (.lst (ys.map V.str))) := s2.trans (same_upd hY)
      refine ⟨⟨_, SqL.of upd_same⟩, fun G hG => ?_⟩
      obtain ⟨HY, hHY⟩ : ∃ HY, HY = upd H2 Y (.lst (ys.map V.str)) := ⟨_, rfl⟩
      have hYY : HY Y = some (.lst (ys.map V.str)) := by rw [hHY, upd_same]
      rw [← hHY] at h2Y s2Y hG ⊢
      obtain ⟨F, hF⟩ : ∃ F : Str → Str × Int, F = fun z => (z, (look sm z).getD 0) := ⟨_, rfl⟩
      refine lc_listN (xs := ys.map V.str) (fun i H4 => ∃ bs : List Addr, H4 G = some (.lst (bs.map V.ref)) ∧ PrsAt H4 bs ((ys.take i).map F) ∧ Same HY H4) ?_ ?_ ?_ ?_
      · exact ⟨[], upd_same, trivial, same_upd hG⟩
      · rintro i H4 _ ⟨bs, h4, p4, s4⟩
        exact SqL.of (s4 _ _ hYY)
      · rintro i x H4 N hx ⟨bs, h4, p4, s4⟩ hN
        rw [List.getElem?_map] at hx
        obtain ⟨z, hz, rfl⟩ := Option.map_eq_some_iff.mp hx
        obtain ⟨v, hv⟩ := hks z (List.mem_of_getElem? hz)
        have hil := (List.getElem?_eq_some_iff.mp hz).1
        have hbl := p4.len
        rw [List.length_map, List.length_take] at hbl
        have hget : DGet H4 D (.str z) (some (.int v)) := by
          have e := DGet.k (k := Sum.inr z) (s4 _ _ h2Y)
          rw [val_ent, hv] at e
          exact e
        walk_at "rd"
        refine ⟨.int v, hget, by decide, fun T hT => ⟨_, (same_upd hT) _ _ h4, smallt (by rw [List.length_map]; omega), hN _ ⟨bs ++ [T], ?_, ?_, ?_⟩⟩⟩
        · rw [upd_same, List.map_append]
          rfl
        · have hTG : T ≠ G := (ne_of_none h4 hT).symm
          rw [List.take_add_one, hz, List.map_append]
          refine PrsAt.snoc (PrsAt.keep ?_ But.upd (p4.same (same_upd hT))) ?_
          · intro x y e
            rw [(same_upd hT) _ _ h4] at e
            cases e
          · have e : F z = (z, v) := by rw [hF]; simp [hv]
            rw [upd_ne hTG, upd_same]
            show some (HO.tup [V.str z, V.int v]) = some (HO.tup [V.str (F z).1, V.int (F z).2])
            rw [e]
        · exact Dw.Same.new (s4.trans (same_upd hT)) hG
      · rintro H4 ⟨bs, h4, p4, s4⟩
        rw [List.length_map, List.take_length] at p4
        have hbl := p4.len
        rw [List.length_map] at hbl
        refine ⟨⟨_, SqL.of h4⟩, fun G2 hG2 => ?_⟩
        refine lc_listN (xs := bs.map V.ref) (fun i H5 => ∃ ds : List Addr, H5 G2 = some (.lst (ds.map V.ref)) ∧ PrsAt H5 ds (((ys.map F).take i).filter fun p => decide (p.2 ≠ 0)) ∧ ds.length ≤ i ∧ Same H4 H5) ?_ ?_ ?_ ?_
        · exact ⟨[], upd_same, trivial, Nat.le_refl _, same_upd hG2⟩
        · rintro i H5 _ ⟨ds, _, _, _, s5⟩
          exact SqL.of (s5 _ _ h4)
        · rintro i x H5 N hx ⟨ds, h5, p5, d5, s5⟩ hN
          obtain ⟨a, p, ha, rfl, hpi, hpa⟩ := (p4.same s5).at hx
          have hil := (List.getElem?_eq_some_iff.mp ha).1
          have htk : (((ys.map F).take (i + 1)).filter fun p => decide (p.2 ≠ 0)) = (((ys.map F).take i).filter fun p => decide (p.2 ≠ 0)) ++ (if p.2 = 0 then [] else [p]) := by
            rw [List.take_add_one, hpi, List.filter_append]
            congr 1
            show ([p].filter fun p => decide (p.2 ≠ 0)) = _
            by_cases h0 : p.2 = 0
            · rw [if_pos h0]; simp [h0]
            · rw [if_neg h0]; simp [h0]
          walk_at "rd"
          refine ⟨_, SqT.of hpa, _, atI_nat (j := 1) rfl, rfl, ite2 (fun h0 => ?_) (fun h0 => ?_)⟩
          · rw [if_pos (V.int.inj h0), List.append_nil] at htk
            exact hN _ ⟨ds, h5, by rw [htk]; exact p5, by omega, s5⟩
          · rw [if_neg (fun e => h0 (by rw [e]))] at htk
            refine ⟨_, h5, smallt (by rw [List.length_map]; omega), hN _ ⟨ds ++ [a], ?_, ?_, ?_, Dw.Same.new s5 hG2⟩⟩
            · rw [upd_same, List.map_append]
              rfl
            · rw [htk]
              refine PrsAt.snoc (PrsAt.keep ?_ But.upd p5) ?_
              · intro x y e
                rw [h5] at e
                cases e
              · have haG : a ≠ G2 := fun e => by
                  rw [e, h5] at hpa
                  cases hpa
                rw [upd_ne haG]
                exact hpa
            · rw [List.length_append]
              exact Nat.succ_le_succ d5
        · rintro H5 ⟨ds, h5, p5, d5, s5⟩
          have hlin : ((ys.map F).filter fun p => decide (p.2 ≠ 0)) = lin ps := by
            have e := srt_of hperm hsort
            unfold lin
            rw [← hsm, ← e, hF]
          rw [List.length_map] at d5
          rw [List.length_map, List.take_of_length_le (by rw [List.length_map]; omega), hlin] at p5
          have hdl := p5.len
          obtain ⟨L, hL⟩ : ∃ L : List Int, L = c :: (lin ps).map (·.2) := ⟨_, rfl⟩
          have hLv : ([V.int c] ++ (lin ps).map fun p => V.int p.2) = L.map V.int := by
            rw [hL, List.map_cons, List.map_map]
            rfl
          have hLl : L.length ≤ 40 := by
            rw [hL, List.length_cons, List.length_map]
            omega
          refine ⟨by decide, fun R hR => ⟨⟨_, SqL.of ((same_upd hR) _ _ h5)⟩, fun G3 hG3 => ?_⟩⟩
          have s5R : Same H5 (upd H5 R (.lst [V.int c])) := same_upd hR
          obtain ⟨HR, hHR⟩ : ∃ HR, HR = upd H5 R (.lst [V.int c]) := ⟨_, rfl⟩
          have hRR : HR R = some (.lst [V.int c]) := by rw [hHR, upd_same]
          rw [← hHR] at hG3 s5R ⊢
          refine lc_listN (xs := ds.map V.ref) (fun i H6 => H6 G3 = some (.lst (((lin ps).take i).map fun p => V.int p.2)) ∧ Same HR H6) ?_ ?_ ?_ ?_
          · exact ⟨upd_same, same_upd hG3⟩
          · rintro i H6 _ ⟨_, s6⟩
            exact SqL.of (s6 _ _ (s5R _ _ h5))
          · rintro i x H6 N hx ⟨h6, s6⟩ hN
            obtain ⟨a, p, ha, rfl, hpi, hpa⟩ := ((p5.same s5R).same s6).at hx
            walk_at "rd"
            refine ⟨_, SqT.of hpa, _, atI_nat (j := 1) rfl, _, h6, smallt (by rw [List.length_map, List.length_take]; omega), hN _ ⟨?_, Dw.Same.new s6 hG3⟩⟩
            rw [upd_same, List.take_add_one, hpi, List.map_append]
            rfl
          · rintro H6 ⟨h6, s6⟩
            rw [List.length_map, hdl, List.take_length] at h6
            refine ⟨_, s6 _ _ hRR, _, h6, by rw [List.length_map]; exact small (by simp only [List.length_cons, List.length_nil]; omega), fun Z hZ => ?_⟩
            rw [hLv]
            have sZ : Same H6 (upd H6 Z (.lst (L.map V.int))) := same_upd hZ
            obtain ⟨HZ, hHZ⟩ : ∃ HZ, HZ = upd H6 Z (.lst (L.map V.int)) := ⟨_, rfl⟩
            have hZZ : HZ Z = some (.lst (L.map V.int)) := by rw [hHZ, upd_same]
            rw [← hHZ] at sZ ⊢
            have s5Z : Same H5 HZ := (s5R.trans s6).trans sZ
            have sHZ : Same H HZ := ((s2Y.trans s4).trans s5).trans s5Z
            refine ⟨⟨_, SqL.of hZZ⟩, for_listN (xs := L.map V.int) (fun i σ H7 => (∃ k, σ = [some (V.ref l), some (V.int c), some (V.ref D), n, some (V.ref G2), k, none]) ∧ HZ = H7 ∧ (L.take i).all okC = true) ?_ ?_ ?_ ?_⟩
            · exact ⟨⟨_, rfl⟩, rfl, rfl⟩
            · rintro i σ H7 _ ⟨_, rfl, _⟩
              exact SqL.of hZZ
            · rintro i x σ H7 N hx ⟨⟨k, rfl⟩, rfl, ha⟩ hN
              rw [List.getElem?_map] at hx
              obtain ⟨j, hj, rfl⟩ := Option.map_eq_some_iff.mp hx
              have stop : okC j = false → Q (V.str (S (cs "oversized"))) HZ := fun h0 => by
                refine bad ?_ HZ sHZ
                show (c :: (lin ps).map (·.2)).all okC = false
                rw [← hL]
                rw [List.all_eq_false]
                exact ⟨j, List.mem_of_getElem? hj, by rw [h0]; exact Bool.false_ne_true⟩
              walk_at "rd"
              refine ite2 (fun h0 => stop ?_) (fun h0 => ite2 (fun h1 => stop ?_) (fun h1 => hN _ _ ⟨⟨_, rfl⟩, rfl, ?_⟩))
              · simp [okC]; omega
              · simp [okC]; omega
              · rw [List.take_add_one, hj, List.all_append, ha]
                simp [okC]
                omega
            · rintro σ H7 ⟨⟨k, rfl⟩, rfl, ha⟩
              rw [List.length_map, List.take_length] at ha
              have hb2 : linOk ps c = true := by
                show (c :: (lin ps).map (·.2)).all okC = true
                rw [← hL]
                exact ha
              walk_at "rd"
              refine ⟨_, .inl ⟨SqL.of (s5Z _ _ h5), fun q hq => ⟨by decide, fun t ht => ok hb2 t _ ((sHZ.trans (same_upd hq)).trans (same_upd ht)) ⟨q, ds, upd_same, (same_upd ht) _ _ upd_same, ((p5.same s5Z).same (same_upd hq)).same (same_upd ht)⟩⟩⟩⟩
def worth (f : Str → Int) (ps : Prs) (c : Int) : Int := ps.foldl (fun t p => t + p.2 * f p.1) c
def sp_value (CU : Addr) : Sp := fun vs H Q E => ∃ (t d : Addr) (ps : Prs) (c : Int) (kvs : List (Key × V)), vs = [.ref t, .ref d] ∧ TermAt H t ps c ∧ H d = some (.dK kvs) ∧
  ((∃ f : Str → Int, (∀ p ∈ ps, valV kvs (Sum.inr p.1) = some (.int (f p.1)) ∧ -(2 ^ 64) < f p.1 ∧ f p.1 < 2 ^ 64) ∧ Q (.int (worth f ps c)) H) ∨
   (∃ p r, ps = p :: r ∧ kvs = [] ∧ Rz CU "name" (.str p.1) H E))
theorem c_value {f : Addr} {fd : FuncData} (D : C8.Def K mg "value" s_value f fd) (b : Binds K fd ["term", "numbers"] []) {CU : Addr} (x_Unknown : ExF P w K mg base "Unknown" CU "name") : CalX P w K mg base 3 "value" (sp_value CU) := by
  refine calX0 D b sc_value (fun vs H Q E h => ?_) (fun cdv A outer s H vs Q E hr h => ?_)
  · obtain ⟨_, _, _, _, _, rfl, _⟩ := h
    rfl
  · obtain ⟨t, d, ps, c, kvs, rfl, ⟨q, as, h1, g1, r1⟩, hd, hc⟩ := h
    refine ⟨_, (pss_cons (ps_asg (pv 0) (pg_tup (n := 2) rfl (pgs_cons (pg_name (i := 2) sc_value.nd rfl (by first | exact Or.inl rfl | exact Or.inr rfl)) (pgs_cons (pg_name (i := 3) sc_value.nd rfl (by first | exact Or.inl rfl | exact Or.inr rfl)) pgs_nil)))) (pss_cons (ps_for (passes_of rfl) rfl (pi_tup (pv 2)) (pg_tup (n := 2) rfl (pgs_cons (pg_name (i := 4) sc_value.nd rfl (by first | exact Or.inl rfl | exact Or.inr rfl)) (pgs_cons (pg_name (i := 5) sc_value.nd rfl (by first | exact Or.inl rfl | exact Or.inr rfl)) pgs_nil))) (pss_cons (ps_if (pt_cmp (pc_dnotin (hu1 hr) (pv 4) (pv 1))) (pss_one (ps_raise rfl (takes_of rfl rfl rfl rfl) (pmk_ex x_Unknown hr (by decide) (by rfl) (pa_cons (pv 4) pa_nil)))) pss_nil) (pss_one (ps_aug (i := 3) sc_value.nd rfl (by first | exact Or.inl rfl | exact Or.inr rfl) (pe_op op_mul (pv 5) (pe_dget (hu1 hr) (pv 1) (pv 4) (fun _ _ => rfl))) ip_add)))) (pss_one (ps_ret (pv 3))))), ?_⟩
    walk_at "rd"
    refine ⟨_, SqT.of h1, rfl, _, _, rfl, _, _, rfl, rfl, q, rfl, ⟨_, SqT.of g1⟩, ?_⟩
    rcases hc with ⟨f2, hf, ok⟩ | ⟨p0, r0, rfl, rfl, hz⟩
    · refine for_tupN (xs := as.map V.ref) (fun i σ H2 => (∃ n k, σ = [some (V.ref t), some (V.ref d), some (V.ref q), some (V.int (worth f2 (ps.take i) c)), n, k]) ∧ H = H2) ?_ ?_ ?_ ?_
      · exact ⟨⟨_, _, rfl⟩, rfl⟩
      · rintro i σ H2 _ ⟨_, rfl⟩
        exact SqT.of g1
      · rintro i x σ H2 N hx ⟨⟨n, k, rfl⟩, rfl⟩ hN
        obtain ⟨a, p, ha, rfl, hpi, hpa⟩ := r1.at hx
        obtain ⟨f3, f4, f5⟩ := hf p (List.mem_of_getElem? hpi)
        have e := DGet.k (k := Sum.inr p.1) hd
        rw [f3] at e
        walk_at "rd"
        refine ⟨_, SqT.of hpa, rfl, _, _, rfl, _, _, rfl, rfl, _, e, ?_⟩
        rw [if_neg (by simp)]
        refine ⟨_, e, _, rfl, _, rfl, .inr ⟨f4, f5⟩, hN _ _ ⟨⟨some (V.str p.1), some (V.int p.2), ?_⟩, rfl⟩⟩
        have e2 : worth f2 (ps.take (i + 1)) c = worth f2 (ps.take i) c + p.2 * f2 p.1 := by
          rw [List.take_add_one, hpi]
          unfold worth
          rw [List.foldl_append]
          rfl
        rw [e2]
      · rintro σ H2 ⟨⟨n, k, rfl⟩, rfl⟩
        rw [List.length_map, r1.len, List.take_length]
        walk_at "rd"
        exact ok
    · refine for_tupN (xs := as.map V.ref) (fun i σ H2 => i = 0 ∧ (∃ n k, σ = [some (V.ref t), some (V.ref d), some (V.ref q), some (V.int c), n, k]) ∧ H = H2) ?_ ?_ ?_ ?_
      · exact ⟨rfl, ⟨_, _, rfl⟩, rfl⟩
      · rintro i σ H2 _ ⟨_, _, rfl⟩
        exact SqT.of g1
      · rintro i x σ H2 N hx ⟨rfl, ⟨n, k, rfl⟩, rfl⟩ hN
        obtain ⟨a, p, ha, rfl, hpi, hpa⟩ := r1.at hx
        obtain rfl := Option.some.inj hpi
        have e := DGet.k (k := Sum.inr p0.1) hd
        rw [valV_nil] at e
        walk_at "rd"
        refine ⟨_, SqT.of hpa, rfl, _, _, rfl, _, _, rfl, rfl, _, e, ?_⟩
        rw [if_pos (by decide)]
        exact ⟨by decide, fun a ha => raise_rz hz ha⟩
      · rintro σ H2 ⟨e, _⟩
        rw [List.length_map, r1.len] at e
        cases e
def sp_is_coef : Sp := fun vs H Q _ => ∃ (i : Int), vs = [.int i] ∧ Q (.bl (okC i)) H
theorem c_is_coefficient {f : Addr} {fd : FuncData} (D : C8.Def K mg "is_coefficient" s_is_coefficient f fd) (b : Binds K fd ["value"] []) (c_in_range : C8.Cal P w K mg base 1 "in_range" sp_in_range []) (z_isinstance : mg "isinstance" = none) (z_int : mg "int" = none) (z_bool : mg "bool" = none) : C8.Cal P w K mg base 2 "is_coefficient" sp_is_coef [] := by
  refine C8.cal0 D b .nil sc_is_coefficient (fun vs H Q E h => ?_) (fun cdv A outer s H vs Q E hr h => ?_)
  · obtain ⟨_, rfl, _⟩ := h
    rfl
  · obtain ⟨i, rfl, ok⟩ := h
    refine ⟨_, (pss_one (ps_ret (pe_and (pe_callB (isiK K) (by rfl) z_isinstance (by decide +kernel) (pa_cons (pv 0) (pa_cons (pe_bltn (by rfl) z_int (by decide +kernel) (v := .ty "int") rfl) pa_nil))) (pe_and (pe_not (pe_callB (isiK K) (by rfl) z_isinstance (by decide +kernel) (pa_cons (pv 0) (pa_cons (pe_bltn (by rfl) z_bool (by decide +kernel) (v := .ty "bool") rfl) pa_nil)))) (pe_one (C8.pe_c c_in_range hr (by decide) (by rfl) (pa_cons (pv 0) pa_nil))))))), ?_⟩
    walk_at "rd"
    refine isi_of (b := true) (.base (.int _)) (kit_ty (by decide +kernel)) ?_
    refine ⟨true, rfl, ?_⟩
    rw [if_pos rfl]
    refine isi_of (b := false) (.base (.int _)) (kit_ty (by decide +kernel)) ⟨false, rfl, ?_⟩
    rw [if_pos rfl]
    exact ⟨i, rfl, ok⟩
def sp_is_pair : Sp := fun vs H Q _ => ∃ (a : Addr) (l : List Nat) (i : Int), vs = [.ref a] ∧ H a = some (.tup [.str (S l), .int i]) ∧ GName l ∧ okC i = true ∧ i ≠ 0 ∧ Q (.bl true) H
theorem c_is_pair {f : Addr} {fd : FuncData} (D : C8.Def K mg "is_pair" s_is_pair f fd) (b : Binds K fd ["value"] []) (c_is_name : C8.Cal P w K mg base 4 "is_name" sp_is_name []) (c_is_coefficient : C8.Cal P w K mg base 2 "is_coefficient" sp_is_coef []) (z_isinstance : mg "isinstance" = none) (z_tuple : mg "tuple" = none) (z_len : mg "len" = none) : C8.Cal P w K mg base 5 "is_pair" sp_is_pair [] := by
  refine C8.cal0 D b .nil sc_is_pair (fun vs H Q E h => ?_) (fun cdv A outer s H vs Q E hr h => ?_)
  · obtain ⟨_, _, _, rfl, _⟩ := h
    rfl
  · obtain ⟨a, l, i, rfl, ha, hg, hi, h0, ok⟩ := h
    refine ⟨_, (pss_cons (ps_if (PW.pt (pw_or (pt_not (pt_val (pe_callB (isiK K) (by rfl) z_isinstance (by decide +kernel) (pa_cons (pv 0) (pa_cons (pe_bltn (by rfl) z_tuple (by decide +kernel) (v := .ty "tuple") rfl) pa_nil))))) (pw_or1 (pt_cmpR (op_ne) (pe_callB (lenS K) (by rfl) z_len PySem.boot_len (pa_cons (pv 0) pa_nil)) pe_int (nomark _))))) (pss_one (ps_ret pe_bl)) pss_nil) (pss_one (ps_ret (pe_and (C8.pe_c c_is_name hr (by decide) (by rfl) (pa_cons (pe_ix (ixT K) (pv 0) pe_int (fun _ _ => rfl)) pa_nil)) (pe_and (C8.pe_c c_is_coefficient hr (by decide) (by rfl) (pa_cons (pe_ix (ixT K) (pv 0) pe_int (fun _ _ => rfl)) pa_nil)) (pe_one (pe_cmpR (op_ne) (pe_ix (ixT K) (pv 0) pe_int (fun _ _ => rfl)) pe_int (nomark _)))))))), ?_⟩
    walk_at "rd"
    refine isi_of (b := true) (.base (.tup ha)) (kit_ty (by decide +kernel)) ?_
    refine ⟨true, rfl, ?_⟩
    rw [if_neg (by decide)]
    refine ⟨_, .inr (SqT.of ha), ?_⟩
    rw [if_pos (by rfl)]
    refine ⟨_, SqT.of ha, _, atI_nat (j := 0) rfl, _, rfl, .inl ⟨l, rfl, by have := hg.le; omega, _, rfl, ?_⟩⟩
    rw [gname_iff.mpr hg, if_pos rfl]
    refine ⟨_, SqT.of ha, _, atI_nat (j := 1) rfl, i, rfl, _, rfl, ?_⟩
    rw [hi, if_pos rfl]
    refine ⟨_, SqT.of ha, _, atI_nat (j := 1) rfl, rfl, ?_⟩
    rw [decide_eq_false (fun e => h0 (V.int.inj e))]
    exact ok
def sp_is_term : Sp := fun vs H Q _ => ∃ (t : Addr) (ps : Prs) (c : Int), vs = [.ref t] ∧ TermAt H t ps c ∧ Good ps ∧ (∀ p ∈ ps, okC p.2 = true ∧ p.2 ≠ 0) ∧ sortedS (keys ps) = true ∧ (keys ps).Nodup ∧ ps.length ≤ 30 ∧ okC c = true ∧ ∀ H', Same H H' → Q (.bl true) H'
theorem c_is_term {f : Addr} {fd : FuncData} (D : C8.Def K mg "is_term" s_is_term f fd) (b : Binds K fd ["value"] []) (c_is_pair : C8.Cal P w K mg base 5 "is_pair" sp_is_pair []) (c_is_coefficient : C8.Cal P w K mg base 2 "is_coefficient" sp_is_coef []) (z_isinstance : mg "isinstance" = none) (z_tuple : mg "tuple" = none) (z_len : mg "len" = none) (z_all : mg "all" = none) (z_sorted : mg "sorted" = none) (z_set : mg "set" = none) : C8.Cal P w K mg base 6 "is_term" sp_is_term [] := by
  refine C8.cal0 D b .nil sc_is_term (fun vs H Q E h => ?_) (fun cdv A outer s H vs Q E hr h => ?_)
  · obtain ⟨_, _, _, rfl, _⟩ := h
    rfl
  · obtain ⟨t, ps, c, rfl, ⟨q, as, h1, g1, r1⟩, hg, hco, hs, hd, hn, hc, ok⟩ := h
    refine ⟨_, (pss_cons (ps_if (PW.pt (pw_or (pt_not (pt_val (pe_callB (isiK K) (by rfl) z_isinstance (by decide +kernel) (pa_cons (pv 0) (pa_cons (pe_bltn (by rfl) z_tuple (by decide +kernel) (v := .ty "tuple") rfl) pa_nil))))) (pw_or1 (pt_cmpR (op_ne) (pe_callB (lenS K) (by rfl) z_len PySem.boot_len (pa_cons (pv 0) pa_nil)) pe_int (nomark _))))) (pss_one (ps_ret pe_bl)) pss_nil) (pss_cons (ps_asg (pv 0) (pg_tup (n := 2) rfl (pgs_cons (pg_name (i := 1) sc_is_term.nd rfl (by first | exact Or.inl rfl | exact Or.inr rfl)) (pgs_cons (pg_name (i := 2) sc_is_term.nd rfl (by first | exact Or.inl rfl | exact Or.inr rfl)) pgs_nil)))) (pss_cons (ps_if (PW.pt (pw_or (pt_not (pt_val (pe_callB (isiK K) (by rfl) z_isinstance (by decide +kernel) (pa_cons (pv 1) (pa_cons (pe_bltn (by rfl) z_tuple (by decide +kernel) (v := .ty "tuple") rfl) pa_nil))))) (pw_or1 (pt_not (pt_val (pe_callB (allK K) (by rfl) z_all (by decide +kernel) (pa_cons (pe_lc (own := [("pair", 4)]) (g := (gName 4)) (tt := tYes) rfl sc_is_term.nd (pi_tup (pv 1)) (blkOk_by (N := N_is_term) (sc := C8.fnScope s_is_term) (by decide +kernel)) (fun _ _ _ _ _ => (pg_name (i := 4) sc_is_term.nd rfl (Or.inl rfl))) (fun _ _ _ _ _ => pts_nil) (fun _ _ _ _ _ => (C8.pe_c c_is_pair hr (by decide) (by rfl) (pa_cons (pv 4) pa_nil)))) pa_nil))))))) (pss_one (ps_ret pe_bl)) pss_nil) (pss_cons (ps_setLc (i := 3) (own := [("pair", 4)]) (g := (gName 4)) (tt := tYes) rfl sc_is_term.nd rfl rfl (sw_true rfl rfl rfl (by decide +kernel)) (pi_tup (pv 1)) (blkOk_by (N := N_is_term) (sc := C8.fnScope s_is_term) (by decide +kernel)) (fun _ _ _ _ _ => (pg_name (i := 4) sc_is_term.nd rfl (Or.inl rfl))) (fun _ _ _ _ _ => pts_nil) (fun _ _ _ _ _ => (pe_ix (ixT K) (pv 4) pe_int (fun _ _ => rfl)))) (pss_one (ps_ret (pe_and (pe_cmpR (eqDK K (hu64 hr)) (pv 3) (pe_callB (sortT rfl) (by rfl) z_sorted (by decide +kernel) (pa_cons (pe_callTy (setOfL K rfl) (by rfl) z_set (by decide +kernel) (pa_cons (pv 3) pa_nil)) pa_nil)) (nomark _)) (pe_one (C8.pe_c c_is_coefficient hr (by decide) (by rfl) (pa_cons (pv 2) pa_nil)))))))))), ?_⟩
    walk_at "rd"
    refine isi_of (b := true) (.base (.tup h1)) (kit_ty (by decide +kernel)) ?_
    refine ⟨true, rfl, ?_⟩
    rw [if_neg (by decide)]
    refine ⟨_, .inr (SqT.of h1), ?_⟩
    rw [if_pos (by rfl)]
    refine ⟨_, SqT.of h1, rfl, _, _, rfl, _, _, rfl, rfl, ?_⟩
    refine isi_of (b := true) (.base (.tup g1)) (kit_ty (by decide +kernel)) ⟨true, rfl, ?_⟩
    rw [if_neg (by decide)]
    refine ⟨q, rfl, ⟨_, SqT.of g1⟩, fun D hD => ?_⟩
    have hal := r1.len
    refine lc_tupN (xs := as.map V.ref) (fun i H5 => H5 D = some (.lst ((List.replicate i true).map V.bl)) ∧ Same H H5) ?_ ?_ ?_ ?_
    · exact ⟨upd_same, same_upd hD⟩
    · rintro i H5 _ ⟨_, s5⟩
      exact SqT.of (s5 _ _ g1)
    · rintro i x H5 N hx ⟨h5, s5⟩ hN
      obtain ⟨a, p, ha, rfl, hpi, hpa⟩ := (r1.same s5).at hx
      have hil := (List.getElem?_eq_some_iff.mp hpi).1
      obtain ⟨l, hgl, e⟩ := hg p (List.mem_of_getElem? hpi)
      obtain ⟨o1, o2⟩ := hco p (List.mem_of_getElem? hpi)
      rw [e] at hpa
      walk_at "rd"
      refine ⟨a, l, p.2, rfl, hpa, hgl, o1, o2, _, h5, smallt (by rw [List.length_map, List.length_replicate]; omega), hN _ ⟨?_, Dw.Same.new s5 hD⟩⟩
      rw [upd_same, List.replicate_succ', List.map_append]
      rfl
    · rintro H5 ⟨h5, s5⟩
      refine ⟨_, SqL.of h5, ?_⟩
      rw [if_neg (by simp)]
      refine ⟨q, rfl, ⟨_, SqT.of (s5 _ _ g1)⟩, fun G hG => ?_⟩
      refine lc_tupN (xs := as.map V.ref) (fun i H6 => H6 G = some (.lst (((keys ps).take i).map V.str)) ∧ Same H5 H6) ?_ ?_ ?_ ?_
      · exact ⟨upd_same, same_upd hG⟩
      · rintro i H6 _ ⟨_, s6⟩
        exact SqT.of (s6 _ _ (s5 _ _ g1))
      · rintro i x H6 N hx ⟨h6, s6⟩ hN
        obtain ⟨a, p, ha, rfl, hpi, hpa⟩ := ((r1.same s5).same s6).at hx
        walk_at "rd"
        refine ⟨_, SqT.of hpa, _, atI_nat (j := 0) rfl, _, h6, smallt (by rw [List.length_map, List.length_take]; simp only [keys, List.length_map]; omega), hN _ ⟨?_, Dw.Same.new s6 hG⟩⟩
        have hk : (keys ps)[i]? = some p.1 := by
          unfold keys
          rw [List.getElem?_map, hpi]
          rfl
        rw [upd_same, List.take_add_one, hk, List.map_append]
        rfl
      · rintro H6 ⟨h6, s6⟩
        have hkl : (keys ps).length = ps.length := by simp [keys]
        rw [List.length_map, hal, ← hkl, List.take_length] at h6
        refine ⟨keys ps, SqL.of h6, by omega, fun p hp => ⟨setL (keys ps), upd_same, by have := setL_len (keys ps); omega, fun ys p1 hperm hsort hp1 => ?_⟩⟩
        obtain rfl := sorted_one (hperm.trans (setL_perm hd)) hsort hs
        have sp : Same H6 (upd H6 p (SetTx P w p (setL (keys ps)))) := same_upd hp
        have sq := sp.trans (same_upd (o := .lst ((keys ps).map V.str)) hp1)
        have sh := txt_shaped (keys ps) (good_keys hg)
        refine ⟨_, .lst (SqL.of (sq _ _ h6)) (txt_dp _), _, .lst (SqL.of upd_same) (txt_dp _), sh, sh, ?_⟩
        rw [if_pos (shaped_refl sh)]
        refine ⟨c, rfl, ?_⟩
        rw [hc]
        exact ok _ (((s5.trans s6).trans sq))
theorem prs_pool {H H' : Hp} {p q : Addr} {ns : List Int} {as : List Addr} {ps : Prs} (h : PrsAt H as ps) (hP : Pool H p q ns) (e : But p H H') : PrsAt H' as ps := by
  obtain ⟨_, _, a, k, hp, _⟩ := hP
  refine PrsAt.keep (fun x y e2 => ?_) e h
  rw [hp] at e2
  cases e2
def sp_list : Sp := fun vs H Q _ => ∃ (p q : Addr) (ns : List Int) (N : Addr) (zs : List Str), vs = [.ref p, .ref N] ∧ Pool H p q ns ∧ N ≠ p ∧ H N = some (.lst (zs.map V.str)) ∧ 0 < zs.length ∧ zs.length ≤ 10 ∧
  ∀ (l : Addr) (as : List Addr) (ps : Prs) H', But p H H' → Pool H' p q ns → H l = none → H' l = some (.lst (as.map V.ref)) → PrsAt H' as ps → ps.length ≤ 6 → (∀ x ∈ ps, x.1 ∈ zs ∧ -300 ≤ x.2 ∧ x.2 ≤ 300) → Q (.ref l) H'
theorem c__law_list {f : Addr} {fd : FuncData} (D : C8.Def K mg "_law_list" s__law_list f fd) (b : Binds K fd ["pool", "names"] []) (c__law_take : C8.Cal P w K mg base 2 "_law_take" sp_take []) (z_range : mg "range" = none) (z_len : mg "len" = none) : C8.Cal P w K mg base 3 "_law_list" sp_list [] := by
  refine C8.cal0 D b .nil sc__law_list (fun vs H Q E h => ?_) (fun cdv A outer s H vs Q E hr h => ?_)
  · obtain ⟨_, _, _, _, _, rfl, _⟩ := h
    rfl
  · obtain ⟨p, q, ns, N, zs, rfl, hP, hNp, hN0, z0, z1, ok⟩ := h
    refine ⟨_, (pss_cons (ps_set (i := 2) sc__law_list.nd rfl (by first | exact Or.inl rfl | exact Or.inr rfl) (pe_lst pa_nil)) (pss_cons (ps_for PassesOwn.never rfl (pi_range1 (by rfl) z_range (pa_cons (C8.pe_c c__law_take hr (by decide) (by rfl) (pa_cons (pv 0) (pa_cons pe_int pa_nil))) pa_nil)) (pg_name (i := 3) sc__law_list.nd rfl (by first | exact Or.inl rfl | exact Or.inr rfl)) (pss_cons (ps_set (i := 4) sc__law_list.nd rfl (by first | exact Or.inl rfl | exact Or.inr rfl) (pe_ix (ixL K) (pe_lst (pa_cons pe_int (pa_cons (pe_un un_neg pe_int) (pa_cons pe_int (pa_cons pe_int (pa_cons pe_int (pa_cons (pe_un un_neg pe_int) (pa_cons pe_int (pa_cons (pe_op op_sub (C8.pe_c c__law_take hr (by decide) (by rfl) (pa_cons (pv 0) (pa_cons pe_int pa_nil))) pe_int) pa_nil))))))))) (C8.pe_c c__law_take hr (by decide) (by rfl) (pa_cons (pv 0) (pa_cons pe_int pa_nil))) (fun _ _ => rfl))) (pss_one (ps_expr (pe_bm PySem.F.plainAttrs_list PySem.F.slot_list_append PySem.F.type_list_append mt_append (pv 2) (pa_cons (pe_tup (pa_cons (pe_ix (ixL K) (pv 1) (C8.pe_c c__law_take hr (by decide) (by rfl) (pa_cons (pv 0) (pa_cons (pe_callB (lenS K) (by rfl) z_len PySem.boot_len (pa_cons (pv 1) pa_nil)) pa_nil))) (fun _ _ => rfl)) (pa_cons (pv 4) pa_nil))) pa_nil)))))) (pss_one (ps_ret (pv 2))))), ?_⟩
    walk_at "rd"
    refine ⟨Nat.zero_le _, fun L hL => ?_⟩
    have hLp : L ≠ p := hP.ne hL
    have hLq : L ≠ q := hP.neq hL
    refine ⟨p, q, ns, 7, rfl, hP.same (same_upd hL), by decide, by decide, fun u H3 u0 u1 hB3 hP3 => ⟨_, rfl, by omega, by omega, ?_⟩⟩
    refine for_rangeN (fun i σ H4 => ∃ (as : List Addr) (ps : Prs) (x y : Option V), as.length = i ∧ σ = [some (V.ref p), some (V.ref N), some (V.ref L), x, y] ∧ H4 L = some (.lst (as.map V.ref)) ∧ PrsAt H4 as ps ∧ (∀ x ∈ ps, x.1 ∈ zs ∧ -300 ≤ x.2 ∧ x.2 ≤ 300) ∧ Pool H4 p q ns ∧ But p H H4) ?_ ?_ ?_
    · exact ⟨[], [], none, none, rfl, rfl, hB3 L _ hLp upd_same, trivial, (fun _ h => nomatch h), hP3, (But.of (same_upd hL)).trans hB3⟩
    · rintro i σ H4 M hi ⟨as, ps, x, y, hal, rfl, h4, p4, hr4, hP4, hB4⟩ hM
      walk_at "rd"
      refine ⟨p, q, ns, 601, rfl, hP4, by decide, by decide, fun d H5 d0 d1 hB5 hP5 => ⟨d, rfl, by show 8 ≤ sizeLine; decide, fun l3 hl3 => menu hP5 hl3 8 rfl (by decide) (by decide) fun v H6 hv hB6 hP6 => ?_⟩⟩
      obtain ⟨j, rfl, hj0, hj1⟩ : ∃ j : Int, v = .int j ∧ -300 ≤ j ∧ j ≤ 300 := by
        simp only [List.mem_cons, List.not_mem_nil, or_false] at hv
        rcases hv with h | h | h | h | h | h | h | h <;> exact ⟨_, h, by omega, by omega⟩
      have hB46 := hB5.trans hB6
      have hN6 := (hB4.trans hB46) N _ hNp hN0
      have h6 := hB46 L _ hLp h4
      have p6 := prs_pool p4 hP4 hB46
      refine ⟨tyL h6, _, .inl (SqL.of hN6), p, q, ns, _, rfl, hP6, by rw [List.length_map]; omega, by rw [List.length_map]; omega, fun e H7 e0 e1 hB7 hP7 => ?_⟩
      obtain ⟨zv, hat, hzm⟩ := at_mem (xs := zs.map V.str) e0 (by rw [List.length_map] at e1 ⊢; exact e1)
      obtain ⟨z, hz, rfl⟩ := List.mem_map.mp hzm
      have h7 := hB7 L _ hLp h6
      have p7 := prs_pool p6 hP6 hB7
      refine ⟨_, e, rfl, SqL.of (hB7 N _ hNp hN6), .str z, hat, by decide, fun T hT => ⟨_, (same_upd hT) _ _ h7, smallt (by rw [List.length_map]; omega), hM _ _ ⟨as ++ [T], ps ++ [(z, j)], _, _, by rw [List.length_append, hal]; rfl, rfl, ?_, ?_, ?_, ?_, ?_⟩⟩⟩
      · rw [upd_same, List.map_append]
        rfl
      · have hTL : T ≠ L := (ne_of_none h7 hT).symm
        refine PrsAt.snoc (PrsAt.keep ?_ But.upd (p7.same (same_upd hT))) ?_
        · intro x y e
          rw [(same_upd hT) _ _ h7] at e
          cases e
        · rw [upd_ne hTL, upd_same]
      · intro x hx
        rcases List.mem_append.mp hx with h | h
        · exact hr4 x h
        · rw [List.mem_singleton.mp h]
          exact ⟨hz, hj0, hj1⟩
      · exact (hP7.same (same_upd hT)).set hLp hLq
      · exact (((hB4.trans hB46).trans hB7).trans (But.of (same_upd hT))).new hL
    · rintro σ H4 ⟨as, ps, x, y, hal, rfl, h4, p4, hr4, hP4, hB4⟩
      walk_at "rd"
      have hpl := p4.len
      exact ok L as ps H4 hB4 hP4 hL h4 p4 (by omega) hr4
inductive Arg (H : Hp) : Int → V → V → Prs → Int → Prop
  | lin {l : Addr} {as : List Addr} {ps : Prs} {c : Int} (h1 : H l = some (.lst (as.map V.ref))) (h2 : PrsAt H as ps) (h3 : ps.length ≤ 30) : Arg H 0 (.ref l) (.int c) ps c
  | plus {t1 t2 : Addr} {p1 p2 : Prs} {c1 c2 : Int} (h1 : TermAt H t1 p1 c1) (h2 : TermAt H t2 p2 c2) (h3 : (p1 ++ p2).length ≤ 30) : Arg H 1 (.ref t1) (.ref t2) (p1 ++ p2) (c1 + c2)
  | minus {t1 t2 : Addr} {p1 p2 : Prs} {c1 c2 : Int} (h1 : TermAt H t1 p1 c1) (h2 : TermAt H t2 p2 c2) (h3 : (p1 ++ p2.map negP).length ≤ 30) : Arg H 2 (.ref t1) (.ref t2) (p1 ++ p2.map negP) (c1 - c2)
  | times {f : Int} {t : Addr} {ps : Prs} {c : Int} (h0 : -10 ≤ f) (h1 : f ≤ 10) (h2 : TermAt H t ps c) (h3 : ps.length ≤ 30) : Arg H 3 (.int f) (.ref t) (ps.map (mulP f)) (f * c)
  | ren {t d : Addr} {ps : Prs} {c : Int} {kvs : List (Key × V)} {r : Str → Str} (h1 : TermAt H t ps c) (h2 : H d = some (.dK kvs)) (h3 : ∀ z, (valV kvs (Sum.inr z)).getD (.str z) = .str (r z)) (h4 : ps.length ≤ 30) : Arg H 4 (.ref t) (.ref d) (ps.map (renP r)) c
def sp_told : Sp := fun vs H Q _ => ∃ (k : Int) (x y : V) (ps : Prs) (c : Int), vs = [.int k, x, y] ∧ Arg H k x y ps c ∧
  (linOk ps c = true → ∀ t H', Same H H' → TermAt H' t (lin ps) c → Q (.ref t) H') ∧ (linOk ps c = false → ∀ H', Same H H' → Q (.str (S (cs "oversized"))) H')
theorem c__law_told {f : Addr} {fd : FuncData} (D : C8.Def K mg "_law_told" s__law_told f fd) (b : Binds K fd ["which", "one", "two"] []) {CO : Addr} (x_Oversized : ExF P w K mg base "Oversized" CO "limit") (oo : PySem.W.exmOne K (.ref CO) (.ref CO) = some true) (z_int : mg "int" = none)
    (c_linear : CalX P w K mg base 3 "linear" (sp_linear K CO)) (c_plus : CalX P w K mg base 4 "plus" (sp_plus CO)) (c_minus : CalX P w K mg base 4 "minus" (sp_minus CO)) (c_times : CalX P w K mg base 4 "times" (sp_times CO)) (c_rename_term : CalX P w K mg base 4 "rename_term" (sp_rename CO)) : C8.Cal P w K mg base 5 "_law_told" sp_told [] := by
  refine C8.cal0 D b .nil sc__law_told (fun vs H Q E h => ?_) (fun cdv A outer s H vs Q E hr h => ?_)
  · obtain ⟨_, _, _, _, _, rfl, _⟩ := h
    rfl
  · obtain ⟨k, x, y, ps, c, rfl, ha, ok, bad⟩ := h
    refine ⟨_, (pss_one (ps_try_named rfl rfl sc__law_told.nd takes0 (fun W pn xe tk _ => (pss_cons (ps_if (pt_cmpR op_eq (pv 0) pe_int (nomark _)) (pss_one (ps_ret (pe_cs c_linear hr (by decide) tk (by rfl) (pa_cons (pv 1) (pa_cons (pv 2) pa_nil))))) pss_nil) (pss_cons (ps_if (pt_cmpR op_eq (pv 0) pe_int (nomark _)) (pss_one (ps_ret (pe_cs c_plus hr (by decide) tk (by rfl) (pa_cons (pv 1) (pa_cons (pv 2) pa_nil))))) pss_nil) (pss_cons (ps_if (pt_cmpR op_eq (pv 0) pe_int (nomark _)) (pss_one (ps_ret (pe_cs c_minus hr (by decide) tk (by rfl) (pa_cons (pv 1) (pa_cons (pv 2) pa_nil))))) pss_nil) (pss_cons (ps_if (pt_cmpR op_eq (pv 0) pe_int (nomark _)) (pss_one (ps_ret (pe_cs c_times hr (by decide) tk (by rfl) (pa_cons (pv 1) (pa_cons (pv 2) pa_nil))))) pss_nil) (pss_one (ps_ret (pe_cs c_rename_term hr (by decide) tk (by rfl) (pa_cons (pv 1) (pa_cons (pv 2) pa_nil))))))))))
      (Named.more (i := 3) ⟨by rfl, by decide, .inl x_Oversized.g⟩ rfl rfl (fun a oe cls d pn hz hf => (pss_one (ps_ret (pe_ix (ixL K) (pe_lst (pa_cons (pe_xf x_Oversized.xf x_Oversized.nof hz hf (pv 3)) (pa_cons pe_str pa_nil))) (pe_callTy call_int1 (by rfl) z_int (by decide +kernel) (pa_cons (pe_cmpR op_eq (pe_xf x_Oversized.xf x_Oversized.nof hz hf (pv 3)) pe_str (nomark _)) pa_nil)) (fun _ _ => rfl))))) Named.none))), ?_⟩
    walk_at "rd"
    unfold tCallS
    simp only [WE, wNamed, unb]
    walk_at "rd"
    have lk : List.lookup (S (cs "limit")) [((Str.ofString "limit" : Str), V.str (S (cs "term")))] = some (V.str (S (cs "term"))) := by
      rw [← ofStr_S]
      simp
    cases ha with
    | lin h1 h2 h3 =>
      rw [if_pos rfl]
      refine ⟨_, _, ps, c, rfl, SqL.of h1, h2, h3, ok, fun h0 d H1 e hd0 hx => ⟨true, oo, fun _ a ha2 => ?_, (fun q => nomatch q)⟩⟩
      unfold tXf
      walk_at "rd"
      refine ⟨_, hx, .str (S (cs "term")), lk, by decide, fun p hp => ⟨_, (same_upd hp) _ _ hx, .str (S (cs "term")), lk, rfl, _, SqL.of upd_same, .str (S (cs "oversized")), ?_, bad h0 _ (e.trans (same_upd hp))⟩⟩
      rw [if_pos rfl]
      exact atI_nat (j := 1) rfl
    | plus h1 h2 h3 =>
      rw [if_neg (by decide), if_pos rfl]
      refine ⟨_, _, _, _, _, _, rfl, h1, h2, h3, ok, fun h0 d H1 e hd0 hx => ⟨true, oo, fun _ a ha2 => ?_, (fun q => nomatch q)⟩⟩
      unfold tXf
      walk_at "rd"
      refine ⟨_, hx, .str (S (cs "term")), lk, by decide, fun p hp => ⟨_, (same_upd hp) _ _ hx, .str (S (cs "term")), lk, rfl, _, SqL.of upd_same, .str (S (cs "oversized")), ?_, bad h0 _ (e.trans (same_upd hp))⟩⟩
      rw [if_pos rfl]
      exact atI_nat (j := 1) rfl
    | minus h1 h2 h3 =>
      rw [if_neg (by decide), if_neg (by decide), if_pos rfl]
      refine ⟨_, _, _, _, _, _, rfl, h1, h2, h3, ok, fun h0 d H1 e hd0 hx => ⟨true, oo, fun _ a ha2 => ?_, (fun q => nomatch q)⟩⟩
      unfold tXf
      walk_at "rd"
      refine ⟨_, hx, .str (S (cs "term")), lk, by decide, fun p hp => ⟨_, (same_upd hp) _ _ hx, .str (S (cs "term")), lk, rfl, _, SqL.of upd_same, .str (S (cs "oversized")), ?_, bad h0 _ (e.trans (same_upd hp))⟩⟩
      rw [if_pos rfl]
      exact atI_nat (j := 1) rfl
    | times h0 h1 h2 h3 =>
      rw [if_neg (by decide), if_neg (by decide), if_neg (by decide), if_pos rfl]
      refine ⟨_, _, _, _, rfl, h0, h1, h2, h3, ok, fun h0 d H1 e hd0 hx => ⟨true, oo, fun _ a ha2 => ?_, (fun q => nomatch q)⟩⟩
      unfold tXf
      walk_at "rd"
      refine ⟨_, hx, .str (S (cs "term")), lk, by decide, fun p hp => ⟨_, (same_upd hp) _ _ hx, .str (S (cs "term")), lk, rfl, _, SqL.of upd_same, .str (S (cs "oversized")), ?_, bad h0 _ (e.trans (same_upd hp))⟩⟩
      rw [if_pos rfl]
      exact atI_nat (j := 1) rfl
    | ren h1 h2 h3 h4 =>
      rw [if_neg (by decide), if_neg (by decide), if_neg (by decide), if_neg (by decide)]
      refine ⟨_, _, _, _, _, _, rfl, h1, h2, h3, h4, ok, fun h0 d H1 e hd0 hx => ⟨true, oo, fun _ a ha2 => ?_, (fun q => nomatch q)⟩⟩
      unfold tXf
      walk_at "rd"
      refine ⟨_, hx, .str (S (cs "term")), lk, by decide, fun p hp => ⟨_, (same_upd hp) _ _ hx, .str (S (cs "term")), lk, rfl, _, SqL.of upd_same, .str (S (cs "oversized")), ?_, bad h0 _ (e.trans (same_upd hp))⟩⟩
      rw [if_pos rfl]
      exact atI_nat (j := 1) rfl
def sp_miss : Sp := fun vs H Q _ => ∃ (t d : Addr) (p : Str × Int) (ps : Prs) (c : Int), vs = [.ref t, .ref d] ∧ TermAt H t (p :: ps) c ∧ H d = some (.dK []) ∧ ∀ H', Same H H' → Q (.str p.1) H'
theorem c__law_missing {f : Addr} {fd : FuncData} (D : C8.Def K mg "_law_missing" s__law_missing f fd) (b : Binds K fd ["term", "numbers"] []) {CU : Addr} (x_Unknown : ExF P w K mg base "Unknown" CU "name") {CM : Addr} (uu : PySem.W.exmOne K (.ref CU) (.ref CU) = some true) (um : PySem.W.kitOne K (.ref CU) (.ref CM) = some false) (T_U : ExcC K CU) (g_Malformed : ∃ u, mg "Malformed" = some u ∧ RelV (.ref CM) u) (z_isinstance : mg "isinstance" = none)
    (c_value : CalX P w K mg base 3 "value" (sp_value CU)) : C8.Cal P w K mg base 4 "_law_missing" sp_miss [] := by
  refine C8.cal0 D b .nil sc__law_missing (fun vs H Q E h => ?_) (fun cdv A outer s H vs Q E hr h => ?_)
  · obtain ⟨_, _, _, _, _, rfl, _⟩ := h
    rfl
  · obtain ⟨t, d0, p, ps, c, rfl, ht, hd, ok⟩ := h
    refine ⟨_, (pss_one (ps_try_named rfl rfl sc__law_missing.nd takes0 (fun W pn xe tk _ => (pss_cons (ps_expr (pe_cs c_value hr (by decide) tk (by rfl) (pa_cons (pv 0) (pa_cons (pv 1) pa_nil)))) (pss_one (ps_ret pe_non))))
      (Named.more (i := 2) ⟨by rfl, by decide, .inl x_Unknown.g⟩ rfl rfl (fun a oe cls d pn hz hf => (pss_cons (ps_if (pt_val (pe_callB (call_isF T_U hz hf) (by rfl) z_isinstance (by decide +kernel) (pa_cons (pv 2) (pa_cons (C8.pe_gc (by rfl) g_Malformed) pa_nil)))) (pss_one (ps_ret pe_int)) pss_nil) (pss_one (ps_ret (pe_xf x_Unknown.xf x_Unknown.nof hz hf (pv 2)))))) Named.none))), ?_⟩
    walk_at "rd"
    unfold tCallS
    simp only [WE, wNamed, unb]
    walk_at "rd"
    refine ⟨t, d0, p :: ps, c, [], rfl, ht, hd, .inr ⟨p, ps, rfl, rfl, fun d H1 e hd0 hx => ⟨true, uu, fun _ a ha2 => ?_, (fun q => nomatch q)⟩⟩⟩
    unfold tXf
    walk_at "rd"
    refine ⟨.ref CM, .ref CM, false, d, _, rfl, (fun u hu => hu), rfl, rfl, hx, um, false, rfl, ?_⟩
    rw [if_neg (by decide)]
    have lk : List.lookup (S (cs "name")) [((Str.ofString "name" : Str), V.str p.1)] = some (V.str p.1) := by
      rw [← ofStr_S]
      simp
    exact ⟨_, hx, .str p.1, lk, ok H1 e⟩
theorem told_in {H : Hp} {Q : VK} {E : XK} {k : Int} {x y : V} {ps : Prs} {c : Int} (ha : Arg H k x y ps c) (h : ∀ v H', Same H H' → Res H' v ps c → Q v H') : sp_told [.int k, x, y] H Q E := ⟨k, x, y, ps, c, rfl, ha, res_split h⟩
theorem sum_in {K : PySem.W.Frag} {H : Hp} {Q : VK} {E : XK} {l : Addr} {as : List Addr} {ps : Prs} {c : Int} (h1 : SqL K H l (as.map V.ref)) (h2 : PrsAt H as ps) (h3 : ps.length ≤ 30) (h : ∀ v H', Same H H' → Res H' v ps c → Q v H') : sp_sum K [.ref l, .int c] H Q E := ⟨l, as, ps, c, rfl, h1, h2, h3, res_split h⟩
theorem term_pool {H H' : Hp} {p q : Addr} {ns : List Int} {t : Addr} {ps : Prs} {c : Int} (h : TermAt H t ps c) (hP : Pool H p q ns) (e : But p H H') : TermAt H' t ps c := by
  obtain ⟨b, as, h1, h2, h3⟩ := h
  have hp : ∃ xs, H p = some (.lst xs) := by
    obtain ⟨_, _, a, k, hp, _⟩ := hP
    exact ⟨_, hp⟩
  obtain ⟨xs, hp⟩ := hp
  have ne : ∀ x ys, H x = some (.tup ys) → x ≠ p := fun x ys hx z => by
    rw [z, hp] at hx
    cases hx
  exact ⟨b, as, e _ _ (ne _ _ h1) h1, e _ _ (ne _ _ h2) h2, prs_pool h3 hP e⟩
theorem worth_congr {f g : Str → Int} : ∀ (ps : Prs) (c : Int), (∀ p ∈ ps, f p.1 = g p.1) → worth f ps c = worth g ps c
  | [], _, _ => rfl
  | p :: ps, c, h => by
    show worth f ps (c + p.2 * f p.1) = worth g ps (c + p.2 * g p.1)
    rw [h p List.mem_cons_self, worth_congr ps _ fun q hq => h q (List.mem_cons_of_mem _ hq)]
theorem worth_snoc (f : Str → Int) (ps : Prs) (p : Str × Int) (c : Int) : worth f (ps ++ [p]) c = worth f ps c + p.2 * f p.1 := by
  unfold worth
  rw [List.foldl_append]
  rfl
theorem name_at {ls : List (List Nat)} {i : Nat} (h : i < ls.length) : atI ((ls.map S).map V.str) (i : Int) = some (.str (S ls[i])) := by
  rw [List.map_map]
  exact at_map (List.getElem?_eq_getElem h)
def spLaw (K : PySem.W.Frag) : Sp := fun vs H Q _ => ∃ (a : Addr) (ns : List Int), vs = [.ref a] ∧ SqL K H a (ns.map V.int) ∧ ns.length ≤ 63 ∧ ∀ H', Q (.bl true) H'
theorem f_law {f : Addr} {fd : FuncData} (D : C8.Def K mg "law" s_law f fd) (c__law_pool : C8.Cal P w K mg base 1 "_law_pool" (sp_pool K) []) (c__law_take : C8.Cal P w K mg base 2 "_law_take" sp_take []) (c__law_name : C8.Cal P w K mg base 3 "_law_name" sp_name []) (c__law_list : C8.Cal P w K mg base 3 "_law_list" sp_list []) {CU : Addr} (c__law_told : C8.Cal P w K mg base 5 "_law_told" sp_told []) (c__law_sum : C8.Cal P w K mg base 2 "_law_sum" (sp_sum K) []) (c_is_term : C8.Cal P w K mg base 6 "is_term" sp_is_term []) (c_value : CalX P w K mg base 3 "value" (sp_value CU)) (c__law_missing : C8.Cal P w K mg base 4 "_law_missing" sp_miss []) (z_range : mg "range" = none) (z_len : mg "len" = none) (z_list : mg "list" = none) (z_dict : mg "dict" = none) (z_isinstance : mg "isinstance" = none) (z_bool : mg "bool" = none) : FnOk P w K mg base C8.CX0 7 f fd ["script"] (spLaw K) := by
  refine C8.fn0 D.fn sc_law (fun vs H Q E h => ?_) (fun cdv A outer s H vs Q E hr h => ?_)
  · obtain ⟨_, _, rfl, _⟩ := h
    rfl
  · obtain ⟨a0, ns, rfl, hS, hns, ok⟩ := h
    refine ⟨_, (pss_cons (ps_set (i := 1) sc_law.nd rfl (by first | exact Or.inl rfl | exact Or.inr rfl) (C8.pe_c c__law_pool hr (by decide) (by rfl) (pa_cons (pv 0) pa_nil))) (pss_cons (ps_setLc (i := 2) (own := [("k", 15)]) (g := (gName 15)) (tt := tYes) rfl sc_law.nd rfl rfl (sw_true rfl rfl rfl (by decide +kernel)) (pi_range1 (by rfl) z_range (pa_cons pe_int pa_nil)) (blkOk_by (N := N_law) (sc := C8.fnScope s_law) (by decide +kernel)) (fun _ _ _ _ _ => (pg_name (i := 15) sc_law.nd rfl (Or.inl rfl))) (fun _ _ _ _ _ => pts_nil) (fun _ _ _ _ _ => (C8.pe_c c__law_name hr (by decide) (by rfl) (pa_cons (pv 1) pa_nil)))) (pss_cons (ps_set (i := 3) sc_law.nd rfl (by first | exact Or.inl rfl | exact Or.inr rfl) (C8.pe_c c__law_list hr (by decide) (by rfl) (pa_cons (pv 1) (pa_cons (pv 2) pa_nil)))) (pss_cons (ps_set (i := 4) sc_law.nd rfl (by first | exact Or.inl rfl | exact Or.inr rfl) (C8.pe_c c__law_list hr (by decide) (by rfl) (pa_cons (pv 1) (pa_cons (pv 2) pa_nil)))) (pss_cons (ps_set (i := 5) sc_law.nd rfl (by first | exact Or.inl rfl | exact Or.inr rfl) (pe_lst (pa_cons (pe_op op_sub (C8.pe_c c__law_take hr (by decide) (by rfl) (pa_cons (pv 1) (pa_cons pe_int pa_nil))) pe_int) (pa_cons (pe_op op_sub (C8.pe_c c__law_take hr (by decide) (by rfl) (pa_cons (pv 1) (pa_cons pe_int pa_nil))) pe_int) pa_nil)))) (pss_cons (ps_set (i := 6) sc_law.nd rfl (by first | exact Or.inl rfl | exact Or.inr rfl) (pe_callTy (listOf K) (by rfl) z_list (by decide +kernel) (pa_cons (pv 3) pa_nil))) (pss_cons (ps_set (i := 7) sc_law.nd rfl (by first | exact Or.inl rfl | exact Or.inr rfl) (C8.pe_c c__law_told hr (by decide) (by rfl) (pa_cons pe_int (pa_cons (pv 6) (pa_cons (pe_ix (ixL K) (pv 5) pe_int (fun _ _ => rfl)) pa_nil))))) (pss_cons (ps_set (i := 8) sc_law.nd rfl (by first | exact Or.inl rfl | exact Or.inr rfl) (C8.pe_c c__law_told hr (by decide) (by rfl) (pa_cons pe_int (pa_cons (pv 4) (pa_cons (pe_ix (ixL K) (pv 5) pe_int (fun _ _ => rfl)) pa_nil))))) (C8.pss_cut (ps_if (PW.pt (pw_or (pt_cmpR (neDK K (hu64 hr)) (pv 6) (pv 3) (nomark _)) (pw_or (pt_cmpR (neDK K (hu64 hr)) (pv 7) (C8.pe_c c__law_sum hr (by decide) (by rfl) (pa_cons (pv 3) (pa_cons (pe_ix (ixL K) (pv 5) pe_int (fun _ _ => rfl)) pa_nil))) (nomark _)) (pw_or1 (pt_cmpR (neDK K (hu64 hr)) (pv 8) (C8.pe_c c__law_sum hr (by decide) (by rfl) (pa_cons (pv 4) (pa_cons (pe_ix (ixL K) (pv 5) pe_int (fun _ _ => rfl)) pa_nil))) (nomark _)))))) (pss_one (ps_ret pe_bl)) pss_nil) (pss_cons (ps_if (PW.pt (pw_or (pt_cmpR (eqDK K (hu64 hr)) (pv 7) pe_str (nomark _)) (pw_or1 (pt_cmpR (eqDK K (hu64 hr)) (pv 8) pe_str (nomark _))))) (pss_one (ps_ret pe_bl)) pss_nil) (C8.pss_cut (ps_if (PW.pt (pw_or (pt_not (pt_val (C8.pe_c c_is_term hr (by decide) (by rfl) (pa_cons (pv 7) pa_nil)))) (pw_or1 (pt_not (pt_val (C8.pe_c c_is_term hr (by decide) (by rfl) (pa_cons (pv 8) pa_nil))))))) (pss_one (ps_ret pe_bl)) pss_nil) (pss_cons (ps_set (i := 9) sc_law.nd rfl (by first | exact Or.inl rfl | exact Or.inr rfl) (pe_op op_sub (C8.pe_c c__law_take hr (by decide) (by rfl) (pa_cons (pv 1) (pa_cons pe_int pa_nil))) pe_int)) (pss_cons (ps_set (i := 10) sc_law.nd rfl (by first | exact Or.inl rfl | exact Or.inr rfl) (pe_disp (pps_cons (pe_ix (ixL K) (pv 2) pe_int (fun _ _ => rfl)) (pe_ix (ixL K) (pv 2) pe_int (fun _ _ => rfl)) (pps_cons (pe_ix (ixL K) (pv 2) pe_int (fun _ _ => rfl)) (C8.pe_c c__law_name hr (by decide) (by rfl) (pa_cons (pv 1) pa_nil)) pps_nil)) (by rfl) (by rfl) (by simp) (by decide))) (pss_cons (ps_setLc (i := 12) (own := [("pair", 11)]) (g := (gName 11)) (tt := tYes) rfl sc_law.nd rfl rfl (sw_true rfl rfl rfl (by decide +kernel)) (pi_tup (pe_ix (ixT K) (pv 8) pe_int (fun _ _ => rfl))) (blkOk_by (N := N_law) (sc := C8.fnScope s_law) (by decide +kernel)) (fun _ _ _ _ _ => (pg_name (i := 11) sc_law.nd rfl (Or.inl rfl))) (fun _ _ _ _ _ => pts_nil) (fun _ _ _ _ _ => (pe_tup (pa_cons (pe_ix (ixT K) (pv 11) pe_int (fun _ _ => rfl)) (pa_cons (pe_op op_sub pe_int (pe_ix (ixT K) (pv 11) pe_int (fun _ _ => rfl))) pa_nil))))) (C8.pss_cut (ps_if (pt_cmpR (neDK K (hu64 hr)) (C8.pe_c c__law_told hr (by decide) (by rfl) (pa_cons pe_int (pa_cons (pv 7) (pa_cons (pv 8) pa_nil)))) (C8.pe_c c__law_sum hr (by decide) (by rfl) (pa_cons (pe_op op_cat (pe_callTy (listOf K) (by rfl) z_list (by decide +kernel) (pa_cons (pe_ix (ixT K) (pv 7) pe_int (fun _ _ => rfl)) pa_nil)) (pe_callTy (listOf K) (by rfl) z_list (by decide +kernel) (pa_cons (pe_ix (ixT K) (pv 8) pe_int (fun _ _ => rfl)) pa_nil))) (pa_cons (pe_op op_add (pe_ix (ixT K) (pv 7) pe_int (fun _ _ => rfl)) (pe_ix (ixT K) (pv 8) pe_int (fun _ _ => rfl))) pa_nil))) (nomark _)) (pss_one (ps_ret pe_bl)) pss_nil) (C8.pss_cut (ps_if (pt_cmpR (neDK K (hu64 hr)) (C8.pe_c c__law_told hr (by decide) (by rfl) (pa_cons pe_int (pa_cons (pv 7) (pa_cons (pv 8) pa_nil)))) (C8.pe_c c__law_sum hr (by decide) (by rfl) (pa_cons (pe_op op_cat (pe_callTy (listOf K) (by rfl) z_list (by decide +kernel) (pa_cons (pe_ix (ixT K) (pv 7) pe_int (fun _ _ => rfl)) pa_nil)) (pv 12)) (pa_cons (pe_op op_sub (pe_ix (ixT K) (pv 7) pe_int (fun _ _ => rfl)) (pe_ix (ixT K) (pv 8) pe_int (fun _ _ => rfl))) pa_nil))) (nomark _)) (pss_one (ps_ret pe_bl)) pss_nil) (C8.pss_cut (ps_if (pt_cmpR (neDK K (hu64 hr)) (C8.pe_c c__law_told hr (by decide) (by rfl) (pa_cons pe_int (pa_cons (pv 9) (pa_cons (pv 7) pa_nil)))) (C8.pe_c c__law_sum hr (by decide) (by rfl) (pa_cons (pe_lc (own := [("pair", 11)]) (g := (gName 11)) (tt := tYes) rfl sc_law.nd (pi_tup (pe_ix (ixT K) (pv 7) pe_int (fun _ _ => rfl))) (blkOk_by (N := N_law) (sc := C8.fnScope s_law) (by decide +kernel)) (fun _ _ _ _ _ => (pg_name (i := 11) sc_law.nd rfl (Or.inl rfl))) (fun _ _ _ _ _ => pts_nil) (fun _ _ _ _ _ => (pe_tup (pa_cons (pe_ix (ixT K) (pv 11) pe_int (fun _ _ => rfl)) (pa_cons (pe_op op_mul (pv 9) (pe_ix (ixT K) (pv 11) pe_int (fun _ _ => rfl))) pa_nil))))) (pa_cons (pe_op op_mul (pv 9) (pe_ix (ixT K) (pv 7) pe_int (fun _ _ => rfl))) pa_nil))) (nomark _)) (pss_one (ps_ret pe_bl)) pss_nil) (C8.pss_cut (ps_if (pt_cmpR (neDK K (hu64 hr)) (C8.pe_c c__law_told hr (by decide) (by rfl) (pa_cons pe_int (pa_cons (pv 7) (pa_cons (pe_callTy call_dictD (by rfl) z_dict (by decide +kernel) (pa_cons (pv 10) pa_nil)) pa_nil)))) (C8.pe_c c__law_sum hr (by decide) (by rfl) (pa_cons (pe_lc (own := [("pair", 11)]) (g := (gName 11)) (tt := tYes) rfl sc_law.nd (pi_tup (pe_ix (ixT K) (pv 7) pe_int (fun _ _ => rfl))) (blkOk_by (N := N_law) (sc := C8.fnScope s_law) (by decide +kernel)) (fun _ _ _ _ _ => (pg_name (i := 11) sc_law.nd rfl (Or.inl rfl))) (fun _ _ _ _ _ => pts_nil) (fun _ _ _ _ _ => (pe_tup (pa_cons (pe_dget2 (hu1 hr) (pv 10) (pe_ix (ixT K) (pv 11) pe_int (fun _ _ => rfl)) (pe_ix (ixT K) (pv 11) pe_int (fun _ _ => rfl)) ⟨by rfl, by rfl, by rfl, by rfl⟩) (pa_cons (pe_ix (ixT K) (pv 11) pe_int (fun _ _ => rfl)) pa_nil))))) (pa_cons (pe_ix (ixT K) (pv 7) pe_int (fun _ _ => rfl)) pa_nil))) (nomark _)) (pss_one (ps_ret pe_bl)) pss_nil) (pss_cons (ps_set (i := 13) sc_law.nd rfl (by first | exact Or.inl rfl | exact Or.inr rfl) pe_dnewK) (pss_cons (ps_set (i := 14) sc_law.nd rfl (by first | exact Or.inl rfl | exact Or.inr rfl) (pe_ix (ixT K) (pv 7) pe_int (fun _ _ => rfl))) (pss_cons (ps_for PassesOwn.never rfl (pi_tup (pe_ix (ixT K) (pv 7) pe_int (fun _ _ => rfl))) (pg_name (i := 11) sc_law.nd rfl (by first | exact Or.inl rfl | exact Or.inr rfl)) (pss_cons (ps_asg (pe_ix (ixL K) (pe_lst (pa_cons pe_int (pa_cons pe_int (pa_cons pe_int (pa_cons pe_int (pa_cons (pe_op op_mul pe_int pe_int) pa_nil)))))) (C8.pe_c c__law_take hr (by decide) (by rfl) (pa_cons (pv 1) (pa_cons pe_int pa_nil))) (fun _ _ => rfl)) (pg_sub (pv 13) (pe_ix (ixT K) (pv 11) pe_int (fun _ _ => rfl)) (set_dict (hu1 hr)))) (pss_one (ps_set (i := 14) sc_law.nd rfl (by first | exact Or.inl rfl | exact Or.inr rfl) (pe_op op_add (pv 14) (pe_op op_mul (pe_ix (ixT K) (pv 11) pe_int (fun _ _ => rfl)) (pe_dget (hu1 hr) (pv 13) (pe_ix (ixT K) (pv 11) pe_int (fun _ _ => rfl)) (fun _ _ => rfl)))))))) (pss_cons (ps_if (PW.pt (pw_or (pt_cmpR (op_ne) (pe_cx c_value hr (by decide) passF (by rfl) (pa_cons (pv 7) (pa_cons (pv 13) pa_nil))) (pv 14) (nomark _)) (pw_or1 (pt_val (pe_callB (isiK K) (by rfl) z_isinstance (by decide +kernel) (pa_cons (pe_cx c_value hr (by decide) passF (by rfl) (pa_cons (pv 7) (pa_cons (pv 13) pa_nil))) (pa_cons (pe_bltn (by rfl) z_bool (by decide +kernel) (v := .ty "bool") rfl) pa_nil))))))) (pss_one (ps_ret pe_bl)) pss_nil) (pss_one (ps_ret (pe_or (pe_notT (pe_ix (ixT K) (pv 7) pe_int (fun _ _ => rfl))) (pe_one (pe_cmpR (op_eq) (C8.pe_c c__law_missing hr (by decide) (by rfl) (pa_cons (pv 7) (pa_cons pe_dnewK pa_nil))) (pe_ix (ixT K) (pe_ix (ixT K) (pe_ix (ixT K) (pv 7) pe_int (fun _ _ => rfl)) pe_int (fun _ _ => rfl)) pe_int (fun _ _ => rfl)) (nomark _)))))))))))))))))))))))))))), ?_⟩
    walk_at "rd"
    refine ⟨a0, ns, rfl, hS, fun p q H1 sm1 hp0 hq0 hP1 => ?_⟩
    walk_at "rd"
    refine ⟨by decide, by decide, fun Nm hNm => ?_⟩
    have hNp : Nm ≠ p := hP1.ne hNm
    have hNq : Nm ≠ q := hP1.neq hNm
    refine lc_rangeN (fun i H3 => ∃ ls : List (List Nat), ls.length = i ∧ (∀ l ∈ ls, GName l) ∧ H3 Nm = some (.lst ((ls.map S).map V.str)) ∧ Pool H3 p q ns) ?_ ?_ ?_
    · exact ⟨[], rfl, (fun _ h => nomatch h), upd_same, hP1.same (same_upd hNm)⟩
    · rintro i H3 N hi ⟨ls, hl, hg, h3, hP3⟩ hN
      walk_at "rd"
      refine ⟨p, q, ns, rfl, hP3, fun l H4 hgl hB4 hP4 => ⟨_, hB4 Nm _ hNp h3, smallt (by rw [List.length_map, List.length_map]; have : i < 4 := hi; omega), hN _ ⟨ls ++ [l], by rw [List.length_append, hl]; rfl, fun l' h => ?_, ?_, hP4.set hNp hNq⟩⟩⟩
      · rcases List.mem_append.mp h with h | h
        · exact hg l' h
        · rw [List.mem_singleton.mp h]; exact hgl
      · rw [upd_same, List.map_append, List.map_append]
        rfl
    rintro H3 ⟨ls, hl4, hgl, h3N, hP3⟩
    have hl4 : ls.length = 4 := hl4
    have zgood : ∀ z ∈ ls.map S, ∃ l, GName l ∧ z = S l := fun z hz => by
      obtain ⟨l, h, rfl⟩ := List.mem_map.mp hz
      exact ⟨l, hgl l h, rfl⟩
    refine ⟨p, q, ns, Nm, ls.map S, rfl, hP3, hNp, h3N, by rw [List.length_map]; omega, by rw [List.length_map]; omega, fun l1 as1 ps1 H4 hB4 hP4 hl10 hl1 hpr1 hn1 hr1 => ?_⟩
    have h4N := hB4 Nm _ hNp h3N
    have hl1p : l1 ≠ p := hP3.ne hl10
    refine ⟨p, q, ns, Nm, ls.map S, rfl, hP4, hNp, h4N, by rw [List.length_map]; omega, by rw [List.length_map]; omega, fun l2 as2 ps2 H5 hB5 hP5 hl20 hl2 hpr2 hn2 hr2 => ?_⟩
    have hl2p : l2 ≠ p := hP4.ne hl20
    have h5N := hB5 Nm _ hNp h4N
    have hl15 := hB5 l1 _ hl1p hl1
    have hpr15 := prs_pool hpr1 hP4 hB5
    have good1 : Good ps1 := fun x hx => zgood _ (hr1 x hx).1
    have good2 : Good ps2 := fun x hx => zgood _ (hr2 x hx).1
    refine ⟨p, q, ns, 601, rfl, hP5, by decide, by decide, fun d1 H6 d10 d11 hB6 hP6 => ⟨d1, rfl, ?_⟩⟩
    refine ⟨p, q, ns, 9, rfl, hP6, by decide, by decide, fun d2 H7 d20 d21 hB7 hP7 => ⟨d2, rfl, by decide, fun C hC => ?_⟩⟩
    have hB57 := hB6.trans hB7
    have h7N := hB57 Nm _ hNp h5N
    have h71 := hB57 l1 _ hl1p hl15
    have h72 := hB57 l2 _ hl2p hl2
    have p71 := prs_pool hpr15 hP5 hB57
    have p72 := prs_pool hpr2 hP5 hB57
    obtain ⟨c1, hc1⟩ : ∃ c1 : Int, c1 = d1 - 300 := ⟨_, rfl⟩
    obtain ⟨c2, hc2⟩ : ∃ c2 : Int, c2 = d2 - 4 := ⟨_, rfl⟩
    rw [← hc1, ← hc2]
    have s8 := same_upd (o := .lst [V.int c1, V.int c2]) hC
    refine ⟨l1, rfl, _, .inl (SqL.of (s8 _ _ h71)), fun G hG => ?_⟩
    have s9 := s8.trans (same_upd (o := .lst (as1.map V.ref)) hG)
    have h9C := (same_upd (o := .lst (as1.map V.ref)) hG) _ _ (upd_same (H := H7) (a := C) (o := .lst [V.int c1, V.int c2]))
    refine ⟨_, SqL.of h9C, _, atI_nat (j := 0) rfl, told_in (.lin upd_same (p71.same s9) (by omega)) fun v1 H8 s98 hres1 => ?_⟩
    refine ⟨_, SqL.of (s98 _ _ h9C), _, atI_nat (j := 1) rfl, told_in (.lin (s98 _ _ (s9 _ _ h72)) ((p72.same s9).same s98) (by omega)) fun v2 H9 s89 hres2 => ?_⟩
    obtain ⟨HG, hHG⟩ : ∃ HG, HG = upd (upd H7 C (.lst [V.int c1, V.int c2])) G (.lst (as1.map V.ref)) := ⟨_, rfl⟩
    have hGG : HG G = some (.lst (as1.map V.ref)) := by rw [hHG, upd_same]
    rw [← hHG] at s9 s98 h9C
    have s7 : Same H7 H9 := (s9.trans s98).trans s89
    have sG : Same HG H9 := s98.trans s89
    have hres1' := hres1.same s89
    obtain ⟨σ0, hσ0⟩ : ∃ σ0 : L2.St, σ0 = [some (V.ref a0), some (V.ref p), some (V.ref Nm), some (V.ref l1), some (V.ref l2), some (V.ref C), some (V.ref G), some v1, some v2, none, none, none, none, none, none, none] := ⟨_, rfl⟩
    refine ⟨fun σ' H' => σ' = σ0 ∧ Same H9 H', ?_, ?_⟩
    · rw [hσ0]
      walk_at "rd"
      have shp := prs_shaped good1
      refine ⟨.list (ps1.map prD), .lst (SqL.of (sG _ _ hGG)) (p71.same s7).dp, .list (ps1.map prD), .lst (SqL.of (s7 _ _ h71)) (p71.same s7).dp, shp, shp, ?_⟩
      rw [shaped_refl shp, if_neg (by decide)]
      refine ⟨_, SqL.of (sG _ _ h9C), _, atI_nat (j := 0) rfl, sum_in (SqL.of (s7 _ _ h71)) (p71.same s7) (by omega) fun w1 Ha sa hra => ?_⟩
      obtain ⟨dd, e1, e2, e3⟩ := (hres1'.same sa).two (K := K) hra (lin_good good1)
      refine ⟨dd, e1, dd, e2, e3, e3, ?_⟩
      rw [shaped_refl e3, if_neg (by decide)]
      refine ⟨_, SqL.of (sa _ _ (sG _ _ h9C)), _, atI_nat (j := 1) rfl, sum_in (SqL.of (sa _ _ (s7 _ _ h72))) ((p72.same s7).same sa) (by omega) fun w2 Hb sb hrb => ?_⟩
      obtain ⟨dd, e1, e2, e3⟩ := ((hres2.same sa).same sb).two (K := K) hrb (lin_good good2)
      refine ⟨dd, e1, dd, e2, e3, e3, ?_⟩
      rw [shaped_refl e3, if_neg (by decide)]
      exact sa.trans sb
    rintro σ' H10 ⟨rfl, s10⟩
    rw [hσ0]
    walk_at "rd"
    have shv := str_shaped over_ok
    rcases hres1'.same s10 with ⟨lo1, t1, rfl, ht1⟩ | ⟨_, rfl⟩
    rotate_left
    · refine ⟨_, .str _, _, .str _, shv, shv, ?_⟩
      rw [if_pos (shaped_refl shv)]
      exact ok _
    have sh1 := tm_shaped (lin_good good1) c1
    refine ⟨_, ht1.dp, _, .str _, sh1, shv, ?_⟩
    rw [if_neg (by simp [tmD, PyData.eqv])]
    rcases hres2.same s10 with ⟨lo2, t2, rfl, ht2⟩ | ⟨_, rfl⟩
    rotate_left
    · refine ⟨_, .str _, _, .str _, shv, shv, ?_⟩
      rw [if_pos (shaped_refl shv)]
      exact ok _
    have sh2 := tm_shaped (lin_good good2) c2
    refine ⟨_, ht2.dp, _, .str _, sh2, shv, ?_⟩
    rw [if_neg (by simp [tmD, PyData.eqv])]
    obtain ⟨okc1, okp1⟩ := linOk_of lo1
    obtain ⟨okc2, okp2⟩ := linOk_of lo2
    have len1 := lin_len ps1
    have len2 := lin_len ps2
    obtain ⟨so1, nd1⟩ := lin_sorted ps1
    obtain ⟨so2, nd2⟩ := lin_sorted ps2
    have go1 := lin_good good1
    have go2 := lin_good good2
    obtain ⟨σ1, hσ1⟩ : ∃ σ1 : L2.St, σ1 = [some (V.ref a0), some (V.ref p), some (V.ref Nm), some (V.ref l1), some (V.ref l2), some (V.ref C), some (V.ref G), some (V.ref t1), some (V.ref t2), none, none, none, none, none, none, none] := ⟨_, rfl⟩
    refine ⟨fun σ' H' => σ' = σ1 ∧ Same H10 H', ?_, ?_⟩
    · rw [hσ1]
      walk_at "rd"
      refine ⟨t1, lin ps1, c1, rfl, ht1, go1, fun p hp => ⟨okp1 p hp, lin_nz hp⟩, so1, nd1, by omega, okc1, fun Ha sa => ⟨true, rfl, ?_⟩⟩
      rw [if_neg (by decide)]
      refine ⟨t2, lin ps2, c2, rfl, ht2.same sa, go2, fun p hp => ⟨okp2 p hp, lin_nz hp⟩, so2, nd2, by omega, okc2, fun Hb sb => ⟨true, rfl, ?_⟩⟩
      rw [if_neg (by decide)]
      exact sa.trans sb
    rintro σ' H11 ⟨rfl, s11⟩
    rw [hσ1]
    walk_at "rd"
    have h11N : H11 Nm = some (.lst ((ls.map S).map V.str)) := s11 _ _ (s10 _ _ (s7 _ _ h7N))
    have hP11 : Pool H11 p q ns := ((hP7.same s7).same s10).same s11
    have ht1' := ht1.same s11
    have ht2' := ht2.same s11
    refine ⟨p, q, ns, 7, rfl, hP11, by decide, by decide, fun u H12 u0 u1 hB12 hP12 => ⟨u, rfl, fun RD hRD => ?_⟩⟩
    have hRDp : RD ≠ p := hP12.ne hRD
    have hRDq : RD ≠ q := hP12.neq hRD
    have h12N := hB12 Nm _ hNp h11N
    have h12N' := (same_upd (o := .dK []) hRD) _ _ h12N
    obtain ⟨fct, hfct⟩ : ∃ fct : Int, fct = u - 3 := ⟨_, rfl⟩
    rw [← hfct]
    refine ⟨_, SqL.of h12N', _, name_at (i := 0) (by omega), _, SqL.of h12N', _, name_at (i := 1) (by omega), _, SqL.of h12N', _, name_at (i := 2) (by omega), ?_⟩
    refine ⟨p, q, ns, rfl, hP12.same (same_upd hRD), fun ln Hn hgn hBn hPn => ⟨hBn RD _ hRDp upd_same, [(Sum.inr (S ls[0]), .str (S ls[1])), (Sum.inr (S ls[2]), .str (S ln))], rfl, by show 2 ≤ 15; decide, ?_⟩⟩
    have hB13 : But p H12 (upd Hn RD (.dK (mergeK [] [(Sum.inr (S ls[0]), .str (S ls[1])), (Sum.inr (S ls[2]), .str (S ln))]))) := ((But.of (same_upd hRD)).trans hBn).new hRD
    obtain ⟨kvs, hkvs⟩ : ∃ kvs : List (Key × V), kvs = mergeK [] [(Sum.inr (S ls[0]), .str (S ls[1])), (Sum.inr (S ls[2]), .str (S ln))] := ⟨_, rfl⟩
    have hnT : NamesT kvs := by
      rw [hkvs]
      have h0 : NamesT [] := fun _ h => nomatch h
      exact putK_names (putK_names h0 (hgl _ (List.getElem_mem _))) hgn
    rw [← hkvs] at hB13 ⊢
    have hRD13 : (upd Hn RD (.dK kvs)) RD = some (.dK kvs) := upd_same
    have hP13 : Pool (upd Hn RD (.dK kvs)) p q ns := hPn.set hRDp hRDq
    have ht13 := term_pool (term_pool ht1' hP11 hB12) hP12 hB13
    have hu13 := term_pool (term_pool ht2' hP11 hB12) hP12 hB13
    obtain ⟨H13, hH13⟩ : ∃ H13, H13 = upd Hn RD (.dK kvs) := ⟨_, rfl⟩
    rw [← hH13] at hRD13 hP13 ht13 hu13 ⊢
    obtain ⟨q1, b1, x1, x2, x3⟩ := id ht13
    obtain ⟨q2, b2, y1, y2, y3⟩ := id hu13
    refine ⟨_, SqT.of y1, _, atI_nat (j := 0) rfl, q2, rfl, ⟨_, SqT.of y2⟩, fun Ng hNg => ?_⟩
    have hlin2 : (lin ps2).length ≤ 30 := by omega
    have hlin1 : (lin ps1).length ≤ 30 := by omega
    refine lc_tupN (xs := b2.map V.ref) (fun i H5 => ∃ bs : List Addr, H5 Ng = some (.lst (bs.map V.ref)) ∧ PrsAt H5 bs (((lin ps2).take i).map negP) ∧ Same H13 H5) ?_ ?_ ?_ ?_
    · exact ⟨[], upd_same, trivial, same_upd hNg⟩
    · rintro i H5 _ ⟨bs, h5, p5, s5⟩
      exact SqT.of (s5 _ _ y2)
    · rintro i x H5 N hx ⟨bs, h5, p5, s5⟩ hN
      obtain ⟨a, p, ha, rfl, hpi, hpa⟩ := (y3.same s5).at hx
      have hil := (List.getElem?_eq_some_iff.mp hpi).1
      have hbl := p5.len
      rw [List.length_map, List.length_take] at hbl
      have fin : ∀ T, H5 T = none → (p9 : Str × Int) → p9 = negP p → ∃ acc, (upd H5 T (.tup [V.str p9.1, V.int p9.2])) Ng = some (.lst acc) ∧ acc.length < sizeLine ∧ N (upd (upd H5 T (.tup [V.str p9.1, V.int p9.2])) Ng (.lst (acc ++ [V.ref T]))) := by
        intro T hT p9 e2
        refine ⟨_, (same_upd hT) _ _ h5, smallt (by rw [List.length_map]; omega), hN _ ⟨bs ++ [T], ?_, ?_, Dw.Same.new (s5.trans (same_upd hT)) hNg⟩⟩
        · rw [upd_same, List.map_append]
          rfl
        · have hTD : T ≠ Ng := (ne_of_none h5 hT).symm
          rw [List.take_add_one, hpi, List.map_append]
          refine PrsAt.snoc (PrsAt.keep ?_ But.upd (p5.same (same_upd hT))) ?_
          · intro x y e
            rw [(same_upd hT) _ _ h5] at e
            cases e
          · rw [upd_ne hTD, upd_same, e2]
      walk_at "rd"
      refine ⟨_, SqT.of hpa, _, atI_nat (j := 0) rfl, _, SqT.of hpa, _, atI_nat (j := 1) rfl, _, rfl, by decide, fun T hT => ?_⟩
      rw [Int.zero_sub]
      exact fin T hT (negP p) rfl
    · rintro H5 ⟨bs, h5, p5, s5⟩
      rw [List.length_map, y3.len, List.take_length] at p5
      obtain ⟨σ2, hσ2⟩ : ∃ σ2 : L2.St, σ2 = [some (V.ref a0), some (V.ref p), some (V.ref Nm), some (V.ref l1), some (V.ref l2), some (V.ref C), some (V.ref G), some (V.ref t1), some (V.ref t2), some (V.int fct), some (V.ref RD), none, some (V.ref Ng), none, none, none] := ⟨_, rfl⟩
      refine ⟨fun σ' H' => σ' = σ2 ∧ Same H5 H', ?_, ?_⟩
      · rw [hσ2]
        walk_at "rd"
        refine told_in (.plus (ht13.same s5) (hu13.same s5) (by rw [List.length_append]; omega)) fun w1 Ha sa hra => ?_
        have sa5 := s5.trans sa
        refine ⟨_, SqT.of (sa5 _ _ x1), _, atI_nat (j := 0) rfl, q1, rfl, _, .inr (SqT.of (sa5 _ _ x2)), fun La hLa => ?_⟩
        have sL := sa5.trans (same_upd (o := .lst (b1.map V.ref)) hLa)
        refine ⟨_, SqT.of (sL _ _ y1), _, atI_nat (j := 0) rfl, q2, rfl, _, .inr (SqT.of (sL _ _ y2)), fun Lb hLb => ?_⟩
        refine ⟨_, (same_upd hLb) _ _ upd_same, _, upd_same, by rw [List.length_map, List.length_map, x3.len, y3.len]; exact small (by omega), fun Lc hLc => ?_⟩
        have sK := ((same_upd (o := .lst (b1.map V.ref)) hLa).trans (same_upd (o := .lst (b2.map V.ref)) hLb)).trans (same_upd (o := .lst (b1.map V.ref ++ b2.map V.ref)) hLc)
        have sC := sa5.trans sK
        refine ⟨_, SqT.of (sC _ _ x1), _, atI_nat (j := 1) rfl, _, SqT.of (sC _ _ y1), _, atI_nat (j := 1) rfl, _, rfl, _, rfl, ?_⟩
        refine sum_in (as := b1 ++ b2) (by rw [List.map_append]; exact SqL.of upd_same) ((x3.same sC).append (y3.same sC)) (by rw [List.length_append]; omega) fun w2 Hb sb hrb => ?_
        obtain ⟨dd, e1, e2, e3⟩ := ((hra.same sK).same sb).two (K := K) hrb (lin_good (good_app go1 go2))
        refine ⟨dd, e1, dd, e2, e3, e3, ?_⟩
        rw [shaped_refl e3, if_neg (by decide)]
        exact (sa.trans sK).trans sb
      rintro σ' H14 ⟨e14, s14⟩
      rw [e14]
      refine ⟨fun σ' H' => σ' = σ2 ∧ Same H14 H', ?_, ?_⟩
      · rw [hσ2]
        walk_at "rd"
        have s1314 := s5.trans s14
        refine told_in (.minus (ht13.same s1314) (hu13.same s1314) (by rw [List.length_append, List.length_map]; omega)) fun w1 Ha sa hra => ?_
        have sa5 := s1314.trans sa
        refine ⟨_, SqT.of (sa5 _ _ x1), _, atI_nat (j := 0) rfl, q1, rfl, _, .inr (SqT.of (sa5 _ _ x2)), fun La hLa => ?_⟩
        have sLa := same_upd (o := .lst (b1.map V.ref)) hLa
        refine ⟨_, upd_same, _, sLa _ _ (sa _ _ (s14 _ _ h5)), by rw [List.length_map, List.length_map, x3.len, p5.len, List.length_map]; exact small (by omega), fun Lc hLc => ?_⟩
        have sK := sLa.trans (same_upd (o := .lst (b1.map V.ref ++ bs.map V.ref)) hLc)
        have sC := sa5.trans sK
        refine ⟨_, SqT.of (sC _ _ x1), _, atI_nat (j := 1) rfl, _, SqT.of (sC _ _ y1), _, atI_nat (j := 1) rfl, _, rfl, _, rfl, ?_⟩
        refine sum_in (as := b1 ++ bs) (by rw [List.map_append]; exact SqL.of upd_same) ((x3.same sC).append (((p5.same s14).same sa).same sK)) (by rw [List.length_append, List.length_map]; omega) fun w2 Hb sb hrb => ?_
        obtain ⟨dd, e1, e2, e3⟩ := ((hra.same sK).same sb).two (K := K) hrb (lin_good (good_app go1 (good_map go2 (fun _ => rfl))))
        refine ⟨dd, e1, dd, e2, e3, e3, ?_⟩
        rw [shaped_refl e3, if_neg (by decide)]
        exact (sa.trans sK).trans sb
      rintro σ' H15 ⟨e15, s15⟩
      rw [e15]
      refine ⟨fun σ' H' => σ' = σ2 ∧ Same H15 H', ?_, ?_⟩
      · rw [hσ2]
        walk_at "rd"
        have s1315 := (s5.trans s14).trans s15
        have hf0 : -10 ≤ fct := by omega
        have hf1 : fct ≤ 10 := by omega
        have hcb := okC_bd okc1
        refine told_in (.times hf0 hf1 (ht13.same s1315) (by omega)) fun w1 Ha sa hra => ?_
        have sa5 := s1315.trans sa
        have xa3 := x3.same sa5
        have xa2 := sa5 _ _ x2
        refine ⟨_, SqT.of (sa5 _ _ x1), _, atI_nat (j := 0) rfl, q1, rfl, ⟨_, SqT.of xa2⟩, fun Dm hDm => ?_⟩
        refine lc_tupN (xs := b1.map V.ref) (fun i H5 => ∃ bs : List Addr, H5 Dm = some (.lst (bs.map V.ref)) ∧ PrsAt H5 bs (((lin ps1).take i).map (mulP fct)) ∧ Same Ha H5) ?_ ?_ ?_ ?_
        · exact ⟨[], upd_same, trivial, same_upd hDm⟩
        · rintro i H5 _ ⟨bs, h5, p5, s5⟩
          exact SqT.of (s5 _ _ xa2)
        · rintro i x H5 N hx ⟨bs, h5, p5, s5⟩ hN
          obtain ⟨a, p, ha, rfl, hpi, hpa⟩ := (xa3.same s5).at hx
          have hil := (List.getElem?_eq_some_iff.mp hpi).1
          have hbl := p5.len
          rw [List.length_map, List.length_take] at hbl
          have fin : ∀ T, H5 T = none → (p9 : Str × Int) → p9 = (mulP fct) p → ∃ acc, (upd H5 T (.tup [V.str p9.1, V.int p9.2])) Dm = some (.lst acc) ∧ acc.length < sizeLine ∧ N (upd (upd H5 T (.tup [V.str p9.1, V.int p9.2])) Dm (.lst (acc ++ [V.ref T]))) := by
            intro T hT p9 e2
            refine ⟨_, (same_upd hT) _ _ h5, smallt (by rw [List.length_map]; omega), hN _ ⟨bs ++ [T], ?_, ?_, Dw.Same.new (s5.trans (same_upd hT)) hDm⟩⟩
            · rw [upd_same, List.map_append]
              rfl
            · have hTD : T ≠ Dm := (ne_of_none h5 hT).symm
              rw [List.take_add_one, hpi, List.map_append]
              refine PrsAt.snoc (PrsAt.keep ?_ But.upd (p5.same (same_upd hT))) ?_
              · intro x y e
                rw [(same_upd hT) _ _ h5] at e
                cases e
              · rw [upd_ne hTD, upd_same, e2]
          walk_at "rd"
          exact ⟨_, SqT.of hpa, _, atI_nat (j := 0) rfl, _, SqT.of hpa, _, atI_nat (j := 1) rfl, _, rfl, .inl ⟨by omega, by omega⟩, by decide, fun T hT => fin T hT (mulP fct p) rfl⟩
        · rintro H5 ⟨bs, h5, p5, s5⟩
          rw [List.length_map, xa3.len, List.take_length] at p5
          have sx := sa5.trans s5
          refine ⟨_, SqT.of (sx _ _ x1), _, atI_nat (j := 1) rfl, _, rfl, .inl ⟨by omega, by omega⟩, sum_in (SqL.of h5) p5 (by rw [List.length_map]; omega) fun w2 Hb sb hrb => ?_⟩
          obtain ⟨dd, e1, e2, e3⟩ := ((hra.same s5).same sb).two (K := K) hrb (lin_good (good_map go1 (fun _ => rfl)))
          refine ⟨dd, e1, dd, e2, e3, e3, ?_⟩
          rw [shaped_refl e3, if_neg (by decide)]
          exact (sa.trans s5).trans sb

      rintro σ' H16 ⟨e16, s16⟩
      rw [e16]
      refine ⟨fun σ' H' => σ' = σ2 ∧ Same H16 H', ?_, ?_⟩
      · rw [hσ2]
        walk_at "rd"
        have s1316 := ((s5.trans s14).trans s15).trans s16
        refine ⟨kvs, .of (s1316 _ _ hRD13), fun dR hdR => ?_⟩
        have sd := s1316.trans (same_upd (o := .dK kvs) hdR)
        refine told_in (.ren (ht13.same sd) upd_same (fun z => (renF_ok hnT z).1) (by omega)) fun w1 Ha sa hra => ?_
        have sa5 := sd.trans sa
        have xa3 := x3.same sa5
        have xa2 := sa5 _ _ x2
        refine ⟨_, SqT.of (sa5 _ _ x1), _, atI_nat (j := 0) rfl, q1, rfl, ⟨_, SqT.of xa2⟩, fun Dm hDm => ?_⟩
        refine lc_tupN (xs := b1.map V.ref) (fun i H5 => ∃ bs : List Addr, H5 Dm = some (.lst (bs.map V.ref)) ∧ PrsAt H5 bs (((lin ps1).take i).map (renP (renF kvs))) ∧ Same Ha H5) ?_ ?_ ?_ ?_
        · exact ⟨[], upd_same, trivial, same_upd hDm⟩
        · rintro i H5 _ ⟨bs, h5, p5, s5⟩
          exact SqT.of (s5 _ _ xa2)
        · rintro i x H5 N hx ⟨bs, h5, p5, s5⟩ hN
          obtain ⟨a, p, ha, rfl, hpi, hpa⟩ := (xa3.same s5).at hx
          have hil := (List.getElem?_eq_some_iff.mp hpi).1
          have hbl := p5.len
          rw [List.length_map, List.length_take] at hbl
          have fin : ∀ T, H5 T = none → (p9 : Str × Int) → p9 = (renP (renF kvs)) p → ∃ acc, (upd H5 T (.tup [V.str p9.1, V.int p9.2])) Dm = some (.lst acc) ∧ acc.length < sizeLine ∧ N (upd (upd H5 T (.tup [V.str p9.1, V.int p9.2])) Dm (.lst (acc ++ [V.ref T]))) := by
            intro T hT p9 e2
            refine ⟨_, (same_upd hT) _ _ h5, smallt (by rw [List.length_map]; omega), hN _ ⟨bs ++ [T], ?_, ?_, Dw.Same.new (s5.trans (same_upd hT)) hDm⟩⟩
            · rw [upd_same, List.map_append]
              rfl
            · have hTD : T ≠ Dm := (ne_of_none h5 hT).symm
              rw [List.take_add_one, hpi, List.map_append]
              refine PrsAt.snoc (PrsAt.keep ?_ But.upd (p5.same (same_upd hT))) ?_
              · intro x y e
                rw [(same_upd hT) _ _ h5] at e
                cases e
              · rw [upd_ne hTD, upd_same, e2]
          walk_at "rd"
          have hd9 := s5 _ _ (sa5 _ _ hRD13)
          refine ⟨.inl ⟨_, .inl hd9⟩, _, SqT.of hpa, _, atI_nat (j := 0) rfl, _, SqT.of hpa, _, atI_nat (j := 0) rfl, _, DGet.k (k := Sum.inr p.1) hd9, _, SqT.of hpa, _, atI_nat (j := 1) rfl, by decide, fun T hT => ?_⟩
          rw [(renF_ok hnT p.1).1]
          exact fin T hT (renP (renF kvs) p) rfl
        · rintro H5 ⟨bs, h5, p5, s5⟩
          rw [List.length_map, xa3.len, List.take_length] at p5
          have sx := sa5.trans s5
          refine ⟨_, SqT.of (sx _ _ x1), _, atI_nat (j := 1) rfl, sum_in (SqL.of h5) p5 (by rw [List.length_map]; omega) fun w2 Hb sb hrb => ?_⟩
          have gr : Good ((lin ps1).map (renP (renF kvs))) := fun y hy => by
            obtain ⟨z, hz, rfl⟩ := List.mem_map.mp hy
            exact (renF_ok hnT z.1).2 (go1 z hz)
          obtain ⟨dd, e1, e2, e3⟩ := ((hra.same s5).same sb).two (K := K) hrb (lin_good gr)
          refine ⟨dd, e1, dd, e2, e3, e3, ?_⟩
          rw [shaped_refl e3, if_neg (by decide)]
          exact (((same_upd hdR).trans sa).trans s5).trans sb

      rintro σ' H17 ⟨e17, s17⟩
      rw [e17, hσ2]
      walk_at "rd"
      have s1317 := (((s5.trans s14).trans s15).trans s16).trans s17
      have hP17 := hP13.same s1317
      intro Nd hNd
      have hNdp : Nd ≠ p := hP17.ne hNd
      have hNdq : Nd ≠ q := hP17.neq hNd
      have sN := s1317.trans (same_upd (o := .dK []) hNd)
      refine ⟨_, SqT.of (sN _ _ x1), _, atI_nat (j := 1) rfl, _, SqT.of (sN _ _ x1), _, atI_nat (j := 0) rfl, q1, rfl, ⟨_, SqT.of (sN _ _ x2)⟩, ?_⟩
      have x17 := x3.same s1317
      have q1p : q1 ≠ p := by
        obtain ⟨_, _, _, _, hp, _⟩ := hP17
        intro z
        have := s1317 _ _ x2
        rw [z, hp] at this
        cases this
      have kl : (keys (lin ps1)).length = (lin ps1).length := by simp [keys]
      refine for_tupN (xs := b1.map V.ref) (fun i σ H18 => ∃ (Dn : Prs) (x : Option V) (due : Int), keys Dn = (keys (lin ps1)).take i ∧ (∀ e ∈ Dn, 0 ≤ e.2 ∧ e.2 ≤ 4294967296) ∧ due = worth (fun z => (look Dn z).getD 0) ((lin ps1).take i) c1 ∧
        σ = [some (V.ref a0), some (V.ref p), some (V.ref Nm), some (V.ref l1), some (V.ref l2), some (V.ref C), some (V.ref G), some (V.ref t1), some (V.ref t2), some (V.int fct), some (V.ref RD), x, some (V.ref Ng), some (V.ref Nd), some (V.int due), none] ∧
        H18 Nd = some (.dK (Dn.map ent)) ∧ Pool H18 p q ns ∧ But p H17 H18) ?_ ?_ ?_ ?_
      · exact ⟨[], none, c1, rfl, (fun _ h => nomatch h), rfl, rfl, upd_same, hP17.same (same_upd hNd), But.of (same_upd hNd)⟩
      · rintro i σ H18 _ ⟨Dn, x, due, hk, hb, hd, rfl, h18, hP18, hB18⟩
        exact SqT.of (hB18 _ _ q1p (s1317 _ _ x2))
      · rintro i x σ H18 N hx ⟨Dn, x0, due, hk, hb, hd, rfl, h18, hP18, hB18⟩ hN
        obtain ⟨a, pr, ha, rfl, hpi, hpa⟩ := (prs_pool x17 hP17 hB18).at hx
        have hil := (List.getElem?_eq_some_iff.mp hpi).1
        have hap : a ≠ p := by
          obtain ⟨_, _, _, _, hp, _⟩ := id hP18
          intro z
          rw [z, hp] at hpa
          cases hpa
        have hDl : Dn.length ≤ 30 := by
          have e := congrArg List.length hk
          rw [List.length_take] at e
          have e2 : (keys Dn).length = Dn.length := by simp [keys]
          omega
        have hki : (keys (lin ps1))[i]? = some pr.1 := by
          unfold keys
          rw [List.getElem?_map, hpi]
          rfl
        have hzn : pr.1 ∉ keys Dn := by
          rw [hk]
          exact nodup_take nd1 hki
        walk_at "rd"
        refine ⟨.inl ⟨by decide, by decide⟩, by show 5 ≤ sizeLine; decide, fun Lm hLm => menu hP18 hLm 5 rfl (by decide) (by decide) fun v H19 hv hB19 hP19 => ?_⟩
        obtain ⟨n, rfl, n0, n1⟩ : ∃ n : Int, v = .int n ∧ 0 ≤ n ∧ n ≤ 4294967296 := by
          simp only [List.mem_cons, List.not_mem_nil, or_false] at hv
          rcases hv with h | h | h | h | h <;> exact ⟨_, h, by decide, by decide⟩
        have hpa19 := hB19 a _ hap hpa
        have h19 := hB19 Nd _ hNdp h18
        refine ⟨_, SqT.of hpa19, _, atI_nat (j := 0) rfl, _, DPut.k (k := Sum.inr pr.1) h19 (by rw [List.length_map]; exact smallt (by omega)), ?_⟩
        rw [put_ent, put_new hzn]
        have haN : a ≠ Nd := fun z => by
          rw [z, h19] at hpa19
          cases hpa19
        have hpa20 : (upd H19 Nd (.dK ((Dn ++ [(pr.1, n)]).map ent))) a = some (.tup [.str pr.1, .int pr.2]) := by
          rw [upd_ne haN]
          exact hpa19
        have hget : DGet (upd H19 Nd (.dK ((Dn ++ [(pr.1, n)]).map ent))) Nd (.str pr.1) (some (.int n)) := by
          have e := DGet.k (k := Sum.inr pr.1) (upd_same (H := H19) (a := Nd) (o := .dK ((Dn ++ [(pr.1, n)]).map ent)))
          rw [val_ent, look_new hzn] at e
          exact e
        refine ⟨_, SqT.of hpa20, _, atI_nat (j := 1) rfl, _, SqT.of hpa20, _, atI_nat (j := 0) rfl, .int n, hget, _, rfl, _, rfl, .inr ⟨by omega, by omega⟩, hN _ _ ⟨Dn ++ [(pr.1, n)], _, due + pr.2 * n, ?_, ?_, ?_, rfl, upd_same, hP19.set hNdp hNdq, (hB18.trans hB19).new hNd⟩⟩
        · rw [List.take_add_one, hki, ← hk]
          simp [keys]
        · intro e he
          rcases List.mem_append.mp he with h | h
          · exact hb e h
          · rw [List.mem_singleton.mp h]
            exact ⟨n0, n1⟩
        · rw [List.take_add_one, hpi]
          show _ = worth _ ((lin ps1).take i ++ [pr]) c1
          rw [worth_snoc]
          rw [worth_congr (g := fun z => (look Dn z).getD 0) _ _ fun y hy => by
            have : y.1 ∈ keys Dn := by
              rw [hk]
              unfold keys
              rw [← List.map_take]
              exact List.mem_map_of_mem hy
            show (look (Dn ++ [(pr.1, n)]) y.1).getD 0 = _
            rw [look_old this], ← hd]
          show due + pr.2 * n = due + pr.2 * (look (Dn ++ [(pr.1, n)]) pr.1).getD 0
          rw [look_new hzn]
          rfl
      · rintro σ H18 ⟨Dn, x, due, hk, hb, hd, rfl, h18, hP18, hB18⟩
        have hkD : keys Dn = keys (lin ps1) := by
          rw [hk, List.length_map, x3.len, ← kl, List.take_length]
        rw [List.length_map, x3.len, List.take_length] at hd
        have tm18 := term_pool (ht13.same s1317) hP17 hB18
        have hf : ∀ y ∈ lin ps1, valV (Dn.map ent) (Sum.inr y.1) = some (.int ((fun z => (look Dn z).getD 0) y.1)) ∧ -(2 ^ 64) < (fun z => (look Dn z).getD 0) y.1 ∧ (fun z => (look Dn z).getD 0) y.1 < 2 ^ 64 := by
          intro y hy
          have hyk : y.1 ∈ keys Dn := by
            rw [hkD]
            exact List.mem_map_of_mem hy
          obtain ⟨v, hv⟩ := look_some hyk
          have hvb : 0 ≤ v ∧ v ≤ 4294967296 := by
            unfold look at hv
            obtain ⟨e, he, rfl⟩ := Option.map_eq_some_iff.mp hv
            exact hb e (List.mem_of_find?_eq_some he)
          show _ = some (V.int ((look Dn y.1).getD 0)) ∧ -(2 ^ 64) < (look Dn y.1).getD 0 ∧ (look Dn y.1).getD 0 < 2 ^ 64
          rw [val_ent, hv]
          show _ = some (V.int v) ∧ -(2 ^ 64) < v ∧ v < 2 ^ 64
          exact ⟨rfl, by omega, by omega⟩
        walk_at "rd"
        refine ⟨t1, Nd, lin ps1, c1, Dn.map ent, rfl, tm18, h18, .inl ⟨fun z => (look Dn z).getD 0, hf, rfl, ?_⟩⟩
        rw [if_pos (by rw [hd])]
        refine ⟨t1, Nd, lin ps1, c1, Dn.map ent, rfl, tm18, h18, .inl ⟨fun z => (look Dn z).getD 0, hf, ?_⟩⟩
        refine isi_of (b := false) (.base (.int _)) (kit_ty (by decide +kernel)) ⟨false, rfl, ?_⟩
        rw [if_neg (by decide)]
        obtain ⟨q9, b9, z1, z2, z3⟩ := id tm18
        unfold tNotT
        walk_at "rd"
        refine ⟨_, SqT.of z1, .ref q9, atI_nat (j := 0) rfl, !(b9.map V.ref).isEmpty, .inr (.inl ⟨_, SqT.of z2, rfl⟩), ?_⟩
        cases b9 with
        | nil =>
          rw [if_pos (by rfl)]
          exact ok _
        | cons a bt =>
          rw [if_neg (by simp)]
          obtain ⟨y, yt, hy⟩ : ∃ y yt, lin ps1 = y :: yt := by
            have := z3.len
            cases e : lin ps1 with
            | nil => rw [e] at this; cases this
            | cons y yt => exact ⟨y, yt, rfl⟩
          rw [hy] at tm18 z3
          refine fun Nx hNx => ⟨t1, Nx, y, yt, c1, rfl, tm18.same (same_upd hNx), upd_same, fun Hb sb => ?_⟩
          have sx := (same_upd (o := .dK []) hNx).trans sb
          refine ⟨_, SqT.of (sx _ _ z1), _, atI_nat (j := 0) rfl, q9, rfl, _, SqT.of (sx _ _ z2), .ref a, atI_nat (j := 0) rfl, a, rfl, _, SqT.of (sx _ _ z3.1), _, atI_nat (j := 0) rfl, rfl, ?_⟩
          rw [decide_eq_true rfl]
          exact ok _

end
abbrev si_Unknown : Stmt := (C8.clsBody (topS 3)).getD 0 (.Pass ⟨0, 0, 0, 0⟩)
theorem sci_Unknown : FnScope ["self", "name"] ["self", "name"] (C8.fnScope si_Unknown) := C8.fnScope_by (by decide +kernel)
theorem f_ini_Unknown {P : Program} {w : World} {K : PySem.W.Frag} {mg : Str → Option Value} {base : Heap} {C fI : Addr} {fd : FuncData} (T : OexC K C) (nof : PySem.W.findIn K (.ref C) "name" = some none) (F : C8.Fun K "__init__" "Unknown.__init__" si_Unknown fI fd) : FnOk P w K mg base C8.CX0 1 fI fd ["self", "name"] (sp_init C "name") := by
  refine C8.fn0 F sci_Unknown (fun vs H Q E h => ?_) (fun cdv A outer s H vs Q E hr h => ?_)
  · obtain ⟨_, _, rfl, _⟩ := h
    rfl
  · obtain ⟨a, v, rfl, ha, ok⟩ := h
    exact ⟨_, pss_one (ps_ost (pv 0) (pv 1)), v, rfl, .ref a, rfl, a, C, rfl, T, nof, .inl ⟨ha, ok⟩⟩
abbrev si_Oversized : Stmt := (C8.clsBody (topS 4)).getD 0 (.Pass ⟨0, 0, 0, 0⟩)
theorem sci_Oversized : FnScope ["self", "limit"] ["self", "limit"] (C8.fnScope si_Oversized) := C8.fnScope_by (by decide +kernel)
theorem f_ini_Oversized {P : Program} {w : World} {K : PySem.W.Frag} {mg : Str → Option Value} {base : Heap} {C fI : Addr} {fd : FuncData} (T : OexC K C) (nof : PySem.W.findIn K (.ref C) "limit" = some none) (F : C8.Fun K "__init__" "Oversized.__init__" si_Oversized fI fd) : FnOk P w K mg base C8.CX0 1 fI fd ["self", "limit"] (sp_init C "limit") := by
  refine C8.fn0 F sci_Oversized (fun vs H Q E h => ?_) (fun cdv A outer s H vs Q E hr h => ?_)
  · obtain ⟨_, _, rfl, _⟩ := h
    rfl
  · obtain ⟨a, v, rfl, ha, ok⟩ := h
    exact ⟨_, pss_one (ps_ost (pv 0) (pv 1)), v, rfl, .ref a, rfl, a, C, rfl, T, nof, .inl ⟨ha, ok⟩⟩
theorem all_mk {l : PySem.W.OpenLaw} {w : World} {K : PySem.W.Frag} {h : Heap} {mg : Str → Option Value} {fa : Addr} (X : K.In h) (G : h.Ns mainGlobals mg) (hfa : mg "law" = some (.ref fa))
    {f0 : Addr} {od0 an0 : Option Addr} {sl0 : Array (Option Value)} {oc0 kV0 dc0 pm0 cd0 ct0 : Value}
    {f1 : Addr} {od1 an1 : Option Addr} {sl1 : Array (Option Value)} {oc1 kV1 dc1 pm1 cd1 ct1 : Value}
    {f2 : Addr} {od2 an2 : Option Addr} {sl2 : Array (Option Value)} {oc2 kV2 dc2 pm2 cd2 ct2 : Value}
    {f3 : Addr} {od3 an3 : Option Addr} {sl3 : Array (Option Value)} {oc3 kV3 dc3 pm3 cd3 ct3 : Value}
    {f4 : Addr} {od4 an4 : Option Addr} {sl4 : Array (Option Value)} {oc4 kV4 dc4 pm4 cd4 ct4 : Value}
    {f5 : Addr} {od5 an5 : Option Addr} {sl5 : Array (Option Value)} {oc5 kV5 dc5 pm5 cd5 ct5 : Value}
    {f6 : Addr} {od6 an6 : Option Addr} {sl6 : Array (Option Value)} {oc6 kV6 dc6 pm6 cd6 ct6 : Value}
    {f7 : Addr} {od7 an7 : Option Addr} {sl7 : Array (Option Value)} {oc7 kV7 dc7 pm7 cd7 ct7 : Value}
    {f8 : Addr} {od8 an8 : Option Addr} {sl8 : Array (Option Value)} {oc8 kV8 dc8 pm8 cd8 ct8 : Value}
    {f9 : Addr} {od9 an9 : Option Addr} {sl9 : Array (Option Value)} {oc9 kV9 dc9 pm9 cd9 ct9 : Value}
    {f10 : Addr} {od10 an10 : Option Addr} {sl10 : Array (Option Value)} {oc10 kV10 dc10 pm10 cd10 ct10 : Value}
    {f11 : Addr} {od11 an11 : Option Addr} {sl11 : Array (Option Value)} {oc11 kV11 dc11 pm11 cd11 ct11 : Value}
    {f12 : Addr} {od12 an12 : Option Addr} {sl12 : Array (Option Value)} {oc12 kV12 dc12 pm12 cd12 ct12 : Value}
    {f13 : Addr} {od13 an13 : Option Addr} {sl13 : Array (Option Value)} {oc13 kV13 dc13 pm13 cd13 ct13 : Value}
    {f14 : Addr} {od14 an14 : Option Addr} {sl14 : Array (Option Value)} {oc14 kV14 dc14 pm14 cd14 ct14 : Value}
    {f15 : Addr} {od15 an15 : Option Addr} {sl15 : Array (Option Value)} {oc15 kV15 dc15 pm15 cd15 ct15 : Value}
    {f16 : Addr} {od16 an16 : Option Addr} {sl16 : Array (Option Value)} {oc16 kV16 dc16 pm16 cd16 ct16 : Value}
    {f17 : Addr} {od17 an17 : Option Addr} {sl17 : Array (Option Value)} {oc17 kV17 dc17 pm17 cd17 ct17 : Value}
    {f18 : Addr} {od18 an18 : Option Addr} {sl18 : Array (Option Value)} {oc18 kV18 dc18 pm18 cd18 ct18 : Value}
    {f19 : Addr} {od19 an19 : Option Addr} {sl19 : Array (Option Value)} {oc19 kV19 dc19 pm19 cd19 ct19 : Value}
    {f20 : Addr} {od20 an20 : Option Addr} {sl20 : Array (Option Value)} {oc20 kV20 dc20 pm20 cd20 ct20 : Value}
    {f21 : Addr} {od21 an21 : Option Addr} {sl21 : Array (Option Value)} {oc21 kV21 dc21 pm21 cd21 ct21 : Value}
    {f22 : Addr} {od22 an22 : Option Addr} {sl22 : Array (Option Value)} {oc22 kV22 dc22 pm22 cd22 ct22 : Value}
    {f23 : Addr} {od23 an23 : Option Addr} {sl23 : Array (Option Value)} {oc23 kV23 dc23 pm23 cd23 ct23 : Value}
    {t_LOWER : Tok}
    {t_DIGITS : Tok}
    {t_LENGTH_LIMIT : Tok}
    {t_COEFFICIENT_LIMIT : Tok}
    {A_RESERVED : Addr} {dd_RESERVED : Option Addr} {its_RESERVED : Array Value} {n_RESERVED : Nat} {sl_RESERVED : Array (Option Value)}
    {CU fI_Unknown : Addr} {nm_Unknown q_Unknown : Str} {N_Unknown : Addr} {bs_Unknown bm_Unknown : List Value} {sn_Unknown : List Str} {sub_Unknown : List Value} {ab_Unknown : Bool} {col_Unknown : Option Bool} {dd_Unknown : Option Addr} {m0_Unknown m1_Unknown m2_Unknown m3_Unknown m5_Unknown : Option Value} {odi_Unknown ani_Unknown : Option Addr} {sli_Unknown : Array (Option Value)} {oci_Unknown kVi_Unknown dci_Unknown pmi_Unknown cdi_Unknown cti_Unknown : Value}
    {CO fI_Oversized : Addr} {nm_Oversized q_Oversized : Str} {N_Oversized : Addr} {bs_Oversized bm_Oversized : List Value} {sn_Oversized : List Str} {sub_Oversized : List Value} {ab_Oversized : Bool} {col_Oversized : Option Bool} {dd_Oversized : Option Addr} {m0_Oversized m1_Oversized m2_Oversized m3_Oversized m5_Oversized : Option Value} {odi_Oversized ani_Oversized : Option Addr} {sli_Oversized : Array (Option Value)} {oci_Oversized kVi_Oversized dci_Oversized pmi_Oversized cdi_Oversized cti_Oversized : Value}
    {CM : Addr}
    (a0 : PySem.W.nsIn K mainGlobals "_law_wide" = some (some (.ref f0))) (l0 : K.lookup f0 = some ⟨oc0, od0, .func (PySem.W.fnOf "_law_wide" "_law_wide" (C8.fnArgs s__law_wide) (C8.fnBody s__law_wide) (C8.fnScope s__law_wide) .none kV0 dc0 pm0 an0 cd0 ct0), sl0⟩) (c0 : PySem.W.codeIn K cd0 "_law_wide" = true) (k0 : PySem.W.keepIn K (.ref f0) = true)
    (a1 : PySem.W.nsIn K mainGlobals "_law_take" = some (some (.ref f1))) (l1 : K.lookup f1 = some ⟨oc1, od1, .func (PySem.W.fnOf "_law_take" "_law_take" (C8.fnArgs s__law_take) (C8.fnBody s__law_take) (C8.fnScope s__law_take) .none kV1 dc1 pm1 an1 cd1 ct1), sl1⟩) (c1 : PySem.W.codeIn K cd1 "_law_take" = true) (k1 : PySem.W.keepIn K (.ref f1) = true)
    (a2 : PySem.W.nsIn K mainGlobals "_law_pool" = some (some (.ref f2))) (l2 : K.lookup f2 = some ⟨oc2, od2, .func (PySem.W.fnOf "_law_pool" "_law_pool" (C8.fnArgs s__law_pool) (C8.fnBody s__law_pool) (C8.fnScope s__law_pool) .none kV2 dc2 pm2 an2 cd2 ct2), sl2⟩) (c2 : PySem.W.codeIn K cd2 "_law_pool" = true) (k2 : PySem.W.keepIn K (.ref f2) = true)
    (a3 : PySem.W.nsIn K mainGlobals "_law_reserved" = some (some (.ref f3))) (l3 : K.lookup f3 = some ⟨oc3, od3, .func (PySem.W.fnOf "_law_reserved" "_law_reserved" (C8.fnArgs s__law_reserved) (C8.fnBody s__law_reserved) (C8.fnScope s__law_reserved) .none kV3 dc3 pm3 an3 cd3 ct3), sl3⟩) (c3 : PySem.W.codeIn K cd3 "_law_reserved" = true) (k3 : PySem.W.keepIn K (.ref f3) = true)
    (a4 : PySem.W.nsIn K mainGlobals "_law_name" = some (some (.ref f4))) (l4 : K.lookup f4 = some ⟨oc4, od4, .func (PySem.W.fnOf "_law_name" "_law_name" (C8.fnArgs s__law_name) (C8.fnBody s__law_name) (C8.fnScope s__law_name) .none kV4 dc4 pm4 an4 cd4 ct4), sl4⟩) (c4 : PySem.W.codeIn K cd4 "_law_name" = true) (k4 : PySem.W.keepIn K (.ref f4) = true)
    (a5 : PySem.W.nsIn K mainGlobals "stands_at" = some (some (.ref f5))) (l5 : K.lookup f5 = some ⟨oc5, od5, .func (PySem.W.fnOf "stands_at" "stands_at" (C8.fnArgs s_stands_at) (C8.fnBody s_stands_at) (C8.fnScope s_stands_at) .none kV5 dc5 pm5 an5 cd5 ct5), sl5⟩) (c5 : PySem.W.codeIn K cd5 "stands_at" = true) (k5 : PySem.W.keepIn K (.ref f5) = true)
    (a6 : PySem.W.nsIn K mainGlobals "run_end" = some (some (.ref f6))) (l6 : K.lookup f6 = some ⟨oc6, od6, .func (PySem.W.fnOf "run_end" "run_end" (C8.fnArgs s_run_end) (C8.fnBody s_run_end) (C8.fnScope s_run_end) .none kV6 dc6 pm6 an6 cd6 ct6), sl6⟩) (c6 : PySem.W.codeIn K cd6 "run_end" = true) (k6 : PySem.W.keepIn K (.ref f6) = true)
    (a7 : PySem.W.nsIn K mainGlobals "is_run" = some (some (.ref f7))) (l7 : K.lookup f7 = some ⟨oc7, od7, .func (PySem.W.fnOf "is_run" "is_run" (C8.fnArgs s_is_run) (C8.fnBody s_is_run) (C8.fnScope s_is_run) .none kV7 dc7 pm7 an7 cd7 ct7), sl7⟩) (c7 : PySem.W.codeIn K cd7 "is_run" = true) (k7 : PySem.W.keepIn K (.ref f7) = true)
    (a8 : PySem.W.nsIn K mainGlobals "is_name" = some (some (.ref f8))) (l8 : K.lookup f8 = some ⟨oc8, od8, .func (PySem.W.fnOf "is_name" "is_name" (C8.fnArgs s_is_name) (C8.fnBody s_is_name) (C8.fnScope s_is_name) .none kV8 dc8 pm8 an8 cd8 ct8), sl8⟩) (c8 : PySem.W.codeIn K cd8 "is_name" = true) (k8 : PySem.W.keepIn K (.ref f8) = true)
    (a9 : PySem.W.nsIn K mainGlobals "in_range" = some (some (.ref f9))) (l9 : K.lookup f9 = some ⟨oc9, od9, .func (PySem.W.fnOf "in_range" "in_range" (C8.fnArgs s_in_range) (C8.fnBody s_in_range) (C8.fnScope s_in_range) .none kV9 dc9 pm9 an9 cd9 ct9), sl9⟩) (c9 : PySem.W.codeIn K cd9 "in_range" = true) (k9 : PySem.W.keepIn K (.ref f9) = true)
    (a10 : PySem.W.nsIn K mainGlobals "linear" = some (some (.ref f10))) (l10 : K.lookup f10 = some ⟨oc10, od10, .func (PySem.W.fnOf "linear" "linear" (C8.fnArgs s_linear) (C8.fnBody s_linear) (C8.fnScope s_linear) .none kV10 dc10 pm10 an10 cd10 ct10), sl10⟩) (c10 : PySem.W.codeIn K cd10 "linear" = true) (k10 : PySem.W.keepIn K (.ref f10) = true)
    (a11 : PySem.W.nsIn K mainGlobals "plus" = some (some (.ref f11))) (l11 : K.lookup f11 = some ⟨oc11, od11, .func (PySem.W.fnOf "plus" "plus" (C8.fnArgs s_plus) (C8.fnBody s_plus) (C8.fnScope s_plus) .none kV11 dc11 pm11 an11 cd11 ct11), sl11⟩) (c11 : PySem.W.codeIn K cd11 "plus" = true) (k11 : PySem.W.keepIn K (.ref f11) = true)
    (a12 : PySem.W.nsIn K mainGlobals "minus" = some (some (.ref f12))) (l12 : K.lookup f12 = some ⟨oc12, od12, .func (PySem.W.fnOf "minus" "minus" (C8.fnArgs s_minus) (C8.fnBody s_minus) (C8.fnScope s_minus) .none kV12 dc12 pm12 an12 cd12 ct12), sl12⟩) (c12 : PySem.W.codeIn K cd12 "minus" = true) (k12 : PySem.W.keepIn K (.ref f12) = true)
    (a13 : PySem.W.nsIn K mainGlobals "times" = some (some (.ref f13))) (l13 : K.lookup f13 = some ⟨oc13, od13, .func (PySem.W.fnOf "times" "times" (C8.fnArgs s_times) (C8.fnBody s_times) (C8.fnScope s_times) .none kV13 dc13 pm13 an13 cd13 ct13), sl13⟩) (c13 : PySem.W.codeIn K cd13 "times" = true) (k13 : PySem.W.keepIn K (.ref f13) = true)
    (a14 : PySem.W.nsIn K mainGlobals "rename_term" = some (some (.ref f14))) (l14 : K.lookup f14 = some ⟨oc14, od14, .func (PySem.W.fnOf "rename_term" "rename_term" (C8.fnArgs s_rename_term) (C8.fnBody s_rename_term) (C8.fnScope s_rename_term) .none kV14 dc14 pm14 an14 cd14 ct14), sl14⟩) (c14 : PySem.W.codeIn K cd14 "rename_term" = true) (k14 : PySem.W.keepIn K (.ref f14) = true)
    (a15 : PySem.W.nsIn K mainGlobals "_law_sum" = some (some (.ref f15))) (l15 : K.lookup f15 = some ⟨oc15, od15, .func (PySem.W.fnOf "_law_sum" "_law_sum" (C8.fnArgs s__law_sum) (C8.fnBody s__law_sum) (C8.fnScope s__law_sum) .none kV15 dc15 pm15 an15 cd15 ct15), sl15⟩) (c15 : PySem.W.codeIn K cd15 "_law_sum" = true) (k15 : PySem.W.keepIn K (.ref f15) = true)
    (a16 : PySem.W.nsIn K mainGlobals "value" = some (some (.ref f16))) (l16 : K.lookup f16 = some ⟨oc16, od16, .func (PySem.W.fnOf "value" "value" (C8.fnArgs s_value) (C8.fnBody s_value) (C8.fnScope s_value) .none kV16 dc16 pm16 an16 cd16 ct16), sl16⟩) (c16 : PySem.W.codeIn K cd16 "value" = true) (k16 : PySem.W.keepIn K (.ref f16) = true)
    (a17 : PySem.W.nsIn K mainGlobals "is_coefficient" = some (some (.ref f17))) (l17 : K.lookup f17 = some ⟨oc17, od17, .func (PySem.W.fnOf "is_coefficient" "is_coefficient" (C8.fnArgs s_is_coefficient) (C8.fnBody s_is_coefficient) (C8.fnScope s_is_coefficient) .none kV17 dc17 pm17 an17 cd17 ct17), sl17⟩) (c17 : PySem.W.codeIn K cd17 "is_coefficient" = true) (k17 : PySem.W.keepIn K (.ref f17) = true)
    (a18 : PySem.W.nsIn K mainGlobals "is_pair" = some (some (.ref f18))) (l18 : K.lookup f18 = some ⟨oc18, od18, .func (PySem.W.fnOf "is_pair" "is_pair" (C8.fnArgs s_is_pair) (C8.fnBody s_is_pair) (C8.fnScope s_is_pair) .none kV18 dc18 pm18 an18 cd18 ct18), sl18⟩) (c18 : PySem.W.codeIn K cd18 "is_pair" = true) (k18 : PySem.W.keepIn K (.ref f18) = true)
    (a19 : PySem.W.nsIn K mainGlobals "is_term" = some (some (.ref f19))) (l19 : K.lookup f19 = some ⟨oc19, od19, .func (PySem.W.fnOf "is_term" "is_term" (C8.fnArgs s_is_term) (C8.fnBody s_is_term) (C8.fnScope s_is_term) .none kV19 dc19 pm19 an19 cd19 ct19), sl19⟩) (c19 : PySem.W.codeIn K cd19 "is_term" = true) (k19 : PySem.W.keepIn K (.ref f19) = true)
    (a20 : PySem.W.nsIn K mainGlobals "_law_list" = some (some (.ref f20))) (l20 : K.lookup f20 = some ⟨oc20, od20, .func (PySem.W.fnOf "_law_list" "_law_list" (C8.fnArgs s__law_list) (C8.fnBody s__law_list) (C8.fnScope s__law_list) .none kV20 dc20 pm20 an20 cd20 ct20), sl20⟩) (c20 : PySem.W.codeIn K cd20 "_law_list" = true) (k20 : PySem.W.keepIn K (.ref f20) = true)
    (a21 : PySem.W.nsIn K mainGlobals "_law_told" = some (some (.ref f21))) (l21 : K.lookup f21 = some ⟨oc21, od21, .func (PySem.W.fnOf "_law_told" "_law_told" (C8.fnArgs s__law_told) (C8.fnBody s__law_told) (C8.fnScope s__law_told) .none kV21 dc21 pm21 an21 cd21 ct21), sl21⟩) (c21 : PySem.W.codeIn K cd21 "_law_told" = true) (k21 : PySem.W.keepIn K (.ref f21) = true)
    (a22 : PySem.W.nsIn K mainGlobals "_law_missing" = some (some (.ref f22))) (l22 : K.lookup f22 = some ⟨oc22, od22, .func (PySem.W.fnOf "_law_missing" "_law_missing" (C8.fnArgs s__law_missing) (C8.fnBody s__law_missing) (C8.fnScope s__law_missing) .none kV22 dc22 pm22 an22 cd22 ct22), sl22⟩) (c22 : PySem.W.codeIn K cd22 "_law_missing" = true) (k22 : PySem.W.keepIn K (.ref f22) = true)
    (a23 : PySem.W.nsIn K mainGlobals "law" = some (some (.ref f23))) (l23 : K.lookup f23 = some ⟨oc23, od23, .func (PySem.W.fnOf "law" "law" (C8.fnArgs s_law) (C8.fnBody s_law) (C8.fnScope s_law) .none kV23 dc23 pm23 an23 cd23 ct23), sl23⟩) (c23 : PySem.W.codeIn K cd23 "law" = true) (k23 : PySem.W.keepIn K (.ref f23) = true)
    (zz_len : PySem.W.nsIn K mainGlobals "len" = some none)
    (zz_abs : PySem.W.nsIn K mainGlobals "abs" = some none)
    (zz_int : PySem.W.nsIn K mainGlobals "int" = some none)
    (zz_list : PySem.W.nsIn K mainGlobals "list" = some none)
    (zz_range : PySem.W.nsIn K mainGlobals "range" = some none)
    (zz_str : PySem.W.nsIn K mainGlobals "str" = some none)
    (zz_isinstance : PySem.W.nsIn K mainGlobals "isinstance" = some none)
    (zz_bool : PySem.W.nsIn K mainGlobals "bool" = some none)
    (zz_sorted : PySem.W.nsIn K mainGlobals "sorted" = some none)
    (zz_all : PySem.W.nsIn K mainGlobals "all" = some none)
    (zz_tuple : PySem.W.nsIn K mainGlobals "tuple" = some none)
    (zz_set : PySem.W.nsIn K mainGlobals "set" = some none)
    (zz_dict : PySem.W.nsIn K mainGlobals "dict" = some none)
    (gg_LOWER : PySem.W.nsIn K mainGlobals "LOWER" = some (some (.str (S LOW) t_LOWER)))
    (gg_DIGITS : PySem.W.nsIn K mainGlobals "DIGITS" = some (some (.str (S DIG) t_DIGITS)))
    (gg_LENGTH_LIMIT : PySem.W.nsIn K mainGlobals "LENGTH_LIMIT" = some (some (.int 12 t_LENGTH_LIMIT)))
    (gg_COEFFICIENT_LIMIT : PySem.W.nsIn K mainGlobals "COEFFICIENT_LIMIT" = some (some (.int 255 t_COEFFICIENT_LIMIT)))
    (gg_RESERVED : PySem.W.nsIn K mainGlobals "RESERVED" = some (some (.ref A_RESERVED))) (gl_RESERVED : K.lookup A_RESERVED = some ⟨.type "tuple", dd_RESERVED, .seq its_RESERVED n_RESERVED, sl_RESERVED⟩) (gv_RESERVED : Vals (RES.map vS) its_RESERVED.toList) (gz_RESERVED : its_RESERVED.size ≤ sizeLine)
    (xa_Unknown : PySem.W.nsIn K mainGlobals "Unknown" = some (some (.ref CU))) (xc_Unknown : K.lookup CU = some (excClassObj nm_Unknown q_Unknown CU N_Unknown bs_Unknown bm_Unknown true sn_Unknown sub_Unknown ab_Unknown col_Unknown dd_Unknown m0_Unknown m1_Unknown m2_Unknown m3_Unknown m5_Unknown "ValueError.__new__")) (xr_Unknown : PySem.HandSPX.refsVE bm_Unknown = true) (xs_Unknown : PySem.W.findIn K (.ref CU) "__setattr__" = some (some (.builtin "object.__setattr__"))) (xg_Unknown : PySem.W.findIn K (.ref CU) "__getattribute__" = some (some (.builtin "BaseException.__getattribute__"))) (xh_Unknown : PySem.W.findIn K (.ref CU) "__getattr__" = some none) (xn_Unknown : PySem.W.findIn K (.ref CU) "name" = some none) (xi_Unknown : PySem.W.findIn K (.ref CU) "__init__" = some (some (.ref fI_Unknown))) (xt_Unknown : PySem.W.typeIn K (.ref fI_Unknown) = some (.type "function")) (xl_Unknown : K.lookup fI_Unknown = some ⟨oci_Unknown, odi_Unknown, .func (PySem.W.fnOf "__init__" "Unknown.__init__" (C8.fnArgs si_Unknown) (C8.fnBody si_Unknown) (C8.fnScope si_Unknown) .none kVi_Unknown dci_Unknown pmi_Unknown ani_Unknown cdi_Unknown cti_Unknown), sli_Unknown⟩) (xq_Unknown : PySem.W.codeIn K cdi_Unknown "Unknown.__init__" = true) (xk_Unknown : PySem.W.keepIn K (.ref CU) = true) (xe_Unknown : PySem.W.subIn K (.ref CU) (.type "BaseException") = some true) (xy_Unknown : PySem.W.typeIn K (.ref CU) = some (.type "type")) (xd_Unknown : PySem.W.hasDictIn K CU = true) (xz_Unknown : PySem.W.isClsIn K CU = true)
    (xa_Oversized : PySem.W.nsIn K mainGlobals "Oversized" = some (some (.ref CO))) (xc_Oversized : K.lookup CO = some (excClassObj nm_Oversized q_Oversized CO N_Oversized bs_Oversized bm_Oversized true sn_Oversized sub_Oversized ab_Oversized col_Oversized dd_Oversized m0_Oversized m1_Oversized m2_Oversized m3_Oversized m5_Oversized "ValueError.__new__")) (xr_Oversized : PySem.HandSPX.refsVE bm_Oversized = true) (xs_Oversized : PySem.W.findIn K (.ref CO) "__setattr__" = some (some (.builtin "object.__setattr__"))) (xg_Oversized : PySem.W.findIn K (.ref CO) "__getattribute__" = some (some (.builtin "BaseException.__getattribute__"))) (xh_Oversized : PySem.W.findIn K (.ref CO) "__getattr__" = some none) (xn_Oversized : PySem.W.findIn K (.ref CO) "limit" = some none) (xi_Oversized : PySem.W.findIn K (.ref CO) "__init__" = some (some (.ref fI_Oversized))) (xt_Oversized : PySem.W.typeIn K (.ref fI_Oversized) = some (.type "function")) (xl_Oversized : K.lookup fI_Oversized = some ⟨oci_Oversized, odi_Oversized, .func (PySem.W.fnOf "__init__" "Oversized.__init__" (C8.fnArgs si_Oversized) (C8.fnBody si_Oversized) (C8.fnScope si_Oversized) .none kVi_Oversized dci_Oversized pmi_Oversized ani_Oversized cdi_Oversized cti_Oversized), sli_Oversized⟩) (xq_Oversized : PySem.W.codeIn K cdi_Oversized "Oversized.__init__" = true) (xk_Oversized : PySem.W.keepIn K (.ref CO) = true) (xe_Oversized : PySem.W.subIn K (.ref CO) (.type "BaseException") = some true) (xy_Oversized : PySem.W.typeIn K (.ref CO) = some (.type "type")) (xd_Oversized : PySem.W.hasDictIn K CO = true) (xz_Oversized : PySem.W.isClsIn K CO = true)
    (ss_COCO : PySem.W.subIn K (.ref CO) (.ref CO) = some true)
    (ss_CUCU : PySem.W.subIn K (.ref CU) (.ref CU) = some true)
    (xa_Malformed : PySem.W.nsIn K mainGlobals "Malformed" = some (some (.ref CM)))
    (kk_um : PySem.W.kitOne K (.ref CU) (.ref CM) = some false)
    (u_ha : PySem.W.findIn K (.ref CU) "__class__" = some (some (.builtin "object.__class__")))
    (u_hn : PySem.W.specialIn K (.builtin "object.__class__") "__get__" = some (some (.builtin "getset_descriptor.__get__")))
    (u_ht : PySem.W.takesIn K (.builtin "object.__class__") = some true)
    (u_hm : PySem.W.mroIn K CU (.type "object") = some true) :
    ∃ fd : FuncData, (∀ (s : Shared) (v : Value), BindsTo s fd ⟨[v], []⟩ [("script", v)]) ∧ ∀ base : Heap, K.In base → base.Ns mainGlobals mg → FnOk l.prog w K mg base C8.CX0 7 fa fd ["script"] (spLaw K) := by
  have e := hfa.symm.trans (PySem.W.mg_of X G a23)
  cases e
  have D0 : C8.Def K mg "_law_wide" s__law_wide f0 _ := ⟨⟨_, _, _, _, _, _, _, _, _, _, rfl, l0, c0⟩, PySem.W.mg_of X G a0, k0⟩
  have b0 := C8.Fun.binds D0.fn rfl (ps := ["script", "k"]) fun _ _ _ _ _ _ us hl => match us, hl with | [_, _], _ => rfl
  have D1 : C8.Def K mg "_law_take" s__law_take f1 _ := ⟨⟨_, _, _, _, _, _, _, _, _, _, rfl, l1, c1⟩, PySem.W.mg_of X G a1, k1⟩
  have b1 := C8.Fun.binds D1.fn rfl (ps := ["pool", "most"]) fun _ _ _ _ _ _ us hl => match us, hl with | [_, _], _ => rfl
  have D2 : C8.Def K mg "_law_pool" s__law_pool f2 _ := ⟨⟨_, _, _, _, _, _, _, _, _, _, rfl, l2, c2⟩, PySem.W.mg_of X G a2, k2⟩
  have b2 := C8.Fun.binds D2.fn rfl (ps := ["script"]) fun _ _ _ _ _ _ us hl => match us, hl with | [_], _ => rfl
  have D3 : C8.Def K mg "_law_reserved" s__law_reserved f3 _ := ⟨⟨_, _, _, _, _, _, _, _, _, _, rfl, l3, c3⟩, PySem.W.mg_of X G a3, k3⟩
  have b3 := C8.Fun.binds D3.fn rfl (ps := []) fun _ _ _ _ _ _ us hl => match us, hl with | [], _ => rfl
  have D4 : C8.Def K mg "_law_name" s__law_name f4 _ := ⟨⟨_, _, _, _, _, _, _, _, _, _, rfl, l4, c4⟩, PySem.W.mg_of X G a4, k4⟩
  have b4 := C8.Fun.binds D4.fn rfl (ps := ["pool"]) fun _ _ _ _ _ _ us hl => match us, hl with | [_], _ => rfl
  have D5 : C8.Def K mg "stands_at" s_stands_at f5 _ := ⟨⟨_, _, _, _, _, _, _, _, _, _, rfl, l5, c5⟩, PySem.W.mg_of X G a5, k5⟩
  have b5 := C8.Fun.binds D5.fn rfl (ps := ["text", "at", "characters"]) fun _ _ _ _ _ _ us hl => match us, hl with | [_, _, _], _ => rfl
  have D6 : C8.Def K mg "run_end" s_run_end f6 _ := ⟨⟨_, _, _, _, _, _, _, _, _, _, rfl, l6, c6⟩, PySem.W.mg_of X G a6, k6⟩
  have b6 := C8.Fun.binds D6.fn rfl (ps := ["text", "at", "characters"]) fun _ _ _ _ _ _ us hl => match us, hl with | [_, _, _], _ => rfl
  have D7 : C8.Def K mg "is_run" s_is_run f7 _ := ⟨⟨_, _, _, _, _, _, _, _, _, _, rfl, l7, c7⟩, PySem.W.mg_of X G a7, k7⟩
  have b7 := C8.Fun.binds D7.fn rfl (ps := ["value", "letters"]) fun _ _ _ _ _ _ us hl => match us, hl with | [_, _], _ => rfl
  have D8 : C8.Def K mg "is_name" s_is_name f8 _ := ⟨⟨_, _, _, _, _, _, _, _, _, _, rfl, l8, c8⟩, PySem.W.mg_of X G a8, k8⟩
  have b8 := C8.Fun.binds D8.fn rfl (ps := ["value"]) fun _ _ _ _ _ _ us hl => match us, hl with | [_], _ => rfl
  have D9 : C8.Def K mg "in_range" s_in_range f9 _ := ⟨⟨_, _, _, _, _, _, _, _, _, _, rfl, l9, c9⟩, PySem.W.mg_of X G a9, k9⟩
  have b9 := C8.Fun.binds D9.fn rfl (ps := ["number"]) fun _ _ _ _ _ _ us hl => match us, hl with | [_], _ => rfl
  have D10 : C8.Def K mg "linear" s_linear f10 _ := ⟨⟨_, _, _, _, _, _, _, _, _, _, rfl, l10, c10⟩, PySem.W.mg_of X G a10, k10⟩
  have b10 := C8.Fun.binds D10.fn rfl (ps := ["pairs", "constant"]) fun _ _ _ _ _ _ us hl => match us, hl with | [_, _], _ => rfl
  have D11 : C8.Def K mg "plus" s_plus f11 _ := ⟨⟨_, _, _, _, _, _, _, _, _, _, rfl, l11, c11⟩, PySem.W.mg_of X G a11, k11⟩
  have b11 := C8.Fun.binds D11.fn rfl (ps := ["one", "two"]) fun _ _ _ _ _ _ us hl => match us, hl with | [_, _], _ => rfl
  have D12 : C8.Def K mg "minus" s_minus f12 _ := ⟨⟨_, _, _, _, _, _, _, _, _, _, rfl, l12, c12⟩, PySem.W.mg_of X G a12, k12⟩
  have b12 := C8.Fun.binds D12.fn rfl (ps := ["one", "two"]) fun _ _ _ _ _ _ us hl => match us, hl with | [_, _], _ => rfl
  have D13 : C8.Def K mg "times" s_times f13 _ := ⟨⟨_, _, _, _, _, _, _, _, _, _, rfl, l13, c13⟩, PySem.W.mg_of X G a13, k13⟩
  have b13 := C8.Fun.binds D13.fn rfl (ps := ["factor", "term"]) fun _ _ _ _ _ _ us hl => match us, hl with | [_, _], _ => rfl
  have D14 : C8.Def K mg "rename_term" s_rename_term f14 _ := ⟨⟨_, _, _, _, _, _, _, _, _, _, rfl, l14, c14⟩, PySem.W.mg_of X G a14, k14⟩
  have b14 := C8.Fun.binds D14.fn rfl (ps := ["term", "names"]) fun _ _ _ _ _ _ us hl => match us, hl with | [_, _], _ => rfl
  have D15 : C8.Def K mg "_law_sum" s__law_sum f15 _ := ⟨⟨_, _, _, _, _, _, _, _, _, _, rfl, l15, c15⟩, PySem.W.mg_of X G a15, k15⟩
  have b15 := C8.Fun.binds D15.fn rfl (ps := ["pairs", "constant"]) fun _ _ _ _ _ _ us hl => match us, hl with | [_, _], _ => rfl
  have D16 : C8.Def K mg "value" s_value f16 _ := ⟨⟨_, _, _, _, _, _, _, _, _, _, rfl, l16, c16⟩, PySem.W.mg_of X G a16, k16⟩
  have b16 := C8.Fun.binds D16.fn rfl (ps := ["term", "numbers"]) fun _ _ _ _ _ _ us hl => match us, hl with | [_, _], _ => rfl
  have D17 : C8.Def K mg "is_coefficient" s_is_coefficient f17 _ := ⟨⟨_, _, _, _, _, _, _, _, _, _, rfl, l17, c17⟩, PySem.W.mg_of X G a17, k17⟩
  have b17 := C8.Fun.binds D17.fn rfl (ps := ["value"]) fun _ _ _ _ _ _ us hl => match us, hl with | [_], _ => rfl
  have D18 : C8.Def K mg "is_pair" s_is_pair f18 _ := ⟨⟨_, _, _, _, _, _, _, _, _, _, rfl, l18, c18⟩, PySem.W.mg_of X G a18, k18⟩
  have b18 := C8.Fun.binds D18.fn rfl (ps := ["value"]) fun _ _ _ _ _ _ us hl => match us, hl with | [_], _ => rfl
  have D19 : C8.Def K mg "is_term" s_is_term f19 _ := ⟨⟨_, _, _, _, _, _, _, _, _, _, rfl, l19, c19⟩, PySem.W.mg_of X G a19, k19⟩
  have b19 := C8.Fun.binds D19.fn rfl (ps := ["value"]) fun _ _ _ _ _ _ us hl => match us, hl with | [_], _ => rfl
  have D20 : C8.Def K mg "_law_list" s__law_list f20 _ := ⟨⟨_, _, _, _, _, _, _, _, _, _, rfl, l20, c20⟩, PySem.W.mg_of X G a20, k20⟩
  have b20 := C8.Fun.binds D20.fn rfl (ps := ["pool", "names"]) fun _ _ _ _ _ _ us hl => match us, hl with | [_, _], _ => rfl
  have D21 : C8.Def K mg "_law_told" s__law_told f21 _ := ⟨⟨_, _, _, _, _, _, _, _, _, _, rfl, l21, c21⟩, PySem.W.mg_of X G a21, k21⟩
  have b21 := C8.Fun.binds D21.fn rfl (ps := ["which", "one", "two"]) fun _ _ _ _ _ _ us hl => match us, hl with | [_, _, _], _ => rfl
  have D22 : C8.Def K mg "_law_missing" s__law_missing f22 _ := ⟨⟨_, _, _, _, _, _, _, _, _, _, rfl, l22, c22⟩, PySem.W.mg_of X G a22, k22⟩
  have b22 := C8.Fun.binds D22.fn rfl (ps := ["term", "numbers"]) fun _ _ _ _ _ _ us hl => match us, hl with | [_, _], _ => rfl
  have D23 : C8.Def K mg "law" s_law fa _ := ⟨⟨_, _, _, _, _, _, _, _, _, _, rfl, l23, c23⟩, PySem.W.mg_of X G a23, k23⟩
  have z_len := PySem.W.mg_none_of X G zz_len
  have z_abs := PySem.W.mg_none_of X G zz_abs
  have z_int := PySem.W.mg_none_of X G zz_int
  have z_list := PySem.W.mg_none_of X G zz_list
  have z_range := PySem.W.mg_none_of X G zz_range
  have z_str := PySem.W.mg_none_of X G zz_str
  have z_isinstance := PySem.W.mg_none_of X G zz_isinstance
  have z_bool := PySem.W.mg_none_of X G zz_bool
  have z_sorted := PySem.W.mg_none_of X G zz_sorted
  have z_all := PySem.W.mg_none_of X G zz_all
  have z_tuple := PySem.W.mg_none_of X G zz_tuple
  have z_set := PySem.W.mg_none_of X G zz_set
  have z_dict := PySem.W.mg_none_of X G zz_dict
  have g_LOWER : ∃ u, mg "LOWER" = some u ∧ RelV (.str (S LOW)) u := ⟨_, PySem.W.mg_of X G gg_LOWER, _, rfl⟩
  have g_DIGITS : ∃ u, mg "DIGITS" = some u ∧ RelV (.str (S DIG)) u := ⟨_, PySem.W.mg_of X G gg_DIGITS, _, rfl⟩
  have g_LENGTH_LIMIT : ∃ u, mg "LENGTH_LIMIT" = some u ∧ RelV (.int 12) u := ⟨_, PySem.W.mg_of X G gg_LENGTH_LIMIT, _, rfl⟩
  have g_COEFFICIENT_LIMIT : ∃ u, mg "COEFFICIENT_LIMIT" = some u ∧ RelV (.int 255) u := ⟨_, PySem.W.mg_of X G gg_COEFFICIENT_LIMIT, _, rfl⟩
  have g_RESERVED : ∃ u, mg "RESERVED" = some u ∧ RelV (.ref A_RESERVED) u := ⟨_, PySem.W.mg_of X G gg_RESERVED, rfl⟩
  have q_RESERVED : ∀ H, SqT K H A_RESERVED (RES.map vS) := fun H => .inr ⟨_, its_RESERVED, n_RESERVED, gl_RESERVED, rfl, rfl, gz_RESERVED, gv_RESERVED⟩
  have T_Unknown : OexC K CU := ⟨⟨_, _, _, _, _, _, _, _, _, _, _, _, _, _, _, xc_Unknown, xr_Unknown⟩, xs_Unknown, xe_Unknown, xy_Unknown, xk_Unknown⟩
  have F_Unknown : C8.Fun K "__init__" "Unknown.__init__" si_Unknown fI_Unknown _ := ⟨_, _, _, _, _, _, _, _, _, _, rfl, xl_Unknown, xq_Unknown⟩
  have bb_Unknown := C8.Fun.binds F_Unknown rfl (ps := ["self", "name"]) fun _ _ _ _ _ _ us hl => match us, hl with | [_, _], _ => rfl
  have T_Oversized : OexC K CO := ⟨⟨_, _, _, _, _, _, _, _, _, _, _, _, _, _, _, xc_Oversized, xr_Oversized⟩, xs_Oversized, xe_Oversized, xy_Oversized, xk_Oversized⟩
  have F_Oversized : C8.Fun K "__init__" "Oversized.__init__" si_Oversized fI_Oversized _ := ⟨_, _, _, _, _, _, _, _, _, _, rfl, xl_Oversized, xq_Oversized⟩
  have bb_Oversized := C8.Fun.binds F_Oversized rfl (ps := ["self", "limit"]) fun _ _ _ _ _ _ us hl => match us, hl with | [_, _], _ => rfl
  have ex_COCO := exm_of xe_Oversized xz_Oversized xy_Oversized ss_COCO
  have ex_CUCU := exm_of xe_Unknown xz_Unknown xy_Unknown ss_CUCU
  refine ⟨PySem.W.fnOf "law" "law" (C8.fnArgs s_law) (C8.fnBody s_law) (C8.fnScope s_law) .none kV23 dc23 pm23 an23 cd23 ct23, fun s v => .of_eq rfl, fun base _ _ => ?_⟩
  have x_Unknown : ExF l.prog w K mg base "Unknown" CU "name" := ⟨T_Unknown, PySem.W.mg_of X G xa_Unknown, ⟨xg_Unknown, xh_Unknown, xe_Unknown, xd_Unknown⟩, xn_Unknown, _, _, xi_Unknown, xt_Unknown, f_ini_Unknown T_Unknown xn_Unknown F_Unknown, bb_Unknown⟩
  have x_Oversized : ExF l.prog w K mg base "Oversized" CO "limit" := ⟨T_Oversized, PySem.W.mg_of X G xa_Oversized, ⟨xg_Oversized, xh_Oversized, xe_Oversized, xd_Oversized⟩, xn_Oversized, _, _, xi_Oversized, xt_Oversized, f_ini_Oversized T_Oversized xn_Oversized F_Oversized, bb_Oversized⟩
  have T_U : ExcC K CU := ⟨xg_Unknown, xh_Unknown, xe_Unknown, xd_Unknown, u_ha, u_hn, u_ht, u_hm⟩
  have g_Malformed : ∃ u, mg "Malformed" = some u ∧ RelV (.ref CM) u := ⟨_, PySem.W.mg_of X G xa_Malformed, rfl⟩
  have c__law_wide := c__law_wide (P := l.prog) (w := w) (base := base) D0 b0 z_len z_abs z_int
  have c__law_take := c__law_take (P := l.prog) (w := w) (base := base) D1 b1 z_int c__law_wide
  have c__law_pool := c__law_pool (P := l.prog) (w := w) (base := base) D2 b2 z_list
  have c__law_reserved := c__law_reserved (P := l.prog) (w := w) (base := base) D3 b3 
  have c__law_name := c__law_name (P := l.prog) (w := w) (base := base) D4 b4 c__law_take c__law_reserved z_range
  have c_stands_at := c_stands_at (P := l.prog) (w := w) (base := base) D5 b5 z_len
  have c_run_end := c_run_end (P := l.prog) (w := w) (base := base) D6 b6 c_stands_at
  have c_is_run := c_is_run (P := l.prog) (w := w) (base := base) D7 b7 c_stands_at c_run_end g_DIGITS g_LENGTH_LIMIT z_len z_isinstance z_str
  have c_is_name := c_is_name (P := l.prog) (w := w) (base := base) D8 b8 c_is_run g_LOWER g_RESERVED q_RESERVED
  have c_in_range := c_in_range (P := l.prog) (w := w) (base := base) D9 b9 g_COEFFICIENT_LIMIT
  have c_linear := c_linear (P := l.prog) (w := w) (base := base) D10 b10 x_Oversized c_in_range z_sorted z_all z_tuple
  have c_plus := c_plus (P := l.prog) (w := w) (base := base) D11 b11 c_linear
  have c_minus := c_minus (P := l.prog) (w := w) (base := base) D12 b12 c_linear
  have c_times := c_times (P := l.prog) (w := w) (base := base) D13 b13 c_linear
  have c_rename_term := c_rename_term (P := l.prog) (w := w) (base := base) D14 b14 c_linear
  have c__law_sum := c__law_sum (P := l.prog) (w := w) (base := base) D15 b15 z_sorted z_tuple
  have c_value := c_value (P := l.prog) (w := w) (base := base) D16 b16 x_Unknown
  have c_is_coefficient := c_is_coefficient (P := l.prog) (w := w) (base := base) D17 b17 c_in_range z_isinstance z_int z_bool
  have c_is_pair := c_is_pair (P := l.prog) (w := w) (base := base) D18 b18 c_is_name c_is_coefficient z_isinstance z_tuple z_len
  have c_is_term := c_is_term (P := l.prog) (w := w) (base := base) D19 b19 c_is_pair c_is_coefficient z_isinstance z_tuple z_len z_all z_sorted z_set
  have c__law_list := c__law_list (P := l.prog) (w := w) (base := base) D20 b20 c__law_take z_range z_len
  have c__law_told := c__law_told (P := l.prog) (w := w) (base := base) D21 b21 x_Oversized ex_COCO z_int c_linear c_plus c_minus c_times c_rename_term
  have c__law_missing := c__law_missing (P := l.prog) (w := w) (base := base) D22 b22 x_Unknown ex_CUCU kk_um T_U g_Malformed z_isinstance c_value
  exact f_law D23 c__law_pool c__law_take c__law_name c__law_list c__law_told c__law_sum c_is_term c_value c__law_missing z_range z_len z_list z_dict z_isinstance z_bool
end K02
open PySem PySem.W PyProof.Rows
set_option maxRecDepth 100000 in
set_option maxHeartbeats 0 in
theorem PySem.Challenge.cw_digitwise_k02_terms_holds : PySem.Challenge.rw_digitwise_k02_terms.Holds := by
  w_on; o_law; k_head; (case hw => w_witness2)
  k_fill
  refine L2.walk_of (l := PySem.Challenge.rw_digitwise_k02_terms) (n := 63) (k := 7) (x := "script") (CX := fun _ => C8.CX0) (sp := fun w => K02.spLaw _) rfl (by decide) rfl ⟨rfl, by decide, by decide⟩ (fun w h Y => PySem.W.kIn_of Y) ?F (fun _ _ a ns hl _ hS => ⟨a, ns, rfl, hS, hl, fun _ => rfl⟩) (fun _ _ _ _ _ h => h)
  case F =>
    intro w mg fa h KX G hmg
    refine' K02.all_mk KX G hmg ?a0 ?l0 ?c0 ?k0 ?a1 ?l1 ?c1 ?k1 ?a2 ?l2 ?c2 ?k2 ?a3 ?l3 ?c3 ?k3 ?a4 ?l4 ?c4 ?k4 ?a5 ?l5 ?c5 ?k5 ?a6 ?l6 ?c6 ?k6 ?a7 ?l7 ?c7 ?k7 ?a8 ?l8 ?c8 ?k8 ?a9 ?l9 ?c9 ?k9 ?a10 ?l10 ?c10 ?k10 ?a11 ?l11 ?c11 ?k11 ?a12 ?l12 ?c12 ?k12 ?a13 ?l13 ?c13 ?k13 ?a14 ?l14 ?c14 ?k14 ?a15 ?l15 ?c15 ?k15 ?a16 ?l16 ?c16 ?k16 ?a17 ?l17 ?c17 ?k17 ?a18 ?l18 ?c18 ?k18 ?a19 ?l19 ?c19 ?k19 ?a20 ?l20 ?c20 ?k20 ?a21 ?l21 ?c21 ?k21 ?a22 ?l22 ?c22 ?k22 ?a23 ?l23 ?c23 ?k23 ?zz_len ?zz_abs ?zz_int ?zz_list ?zz_range ?zz_str ?zz_isinstance ?zz_bool ?zz_sorted ?zz_all ?zz_tuple ?zz_set ?zz_dict ?gg_LOWER ?gg_DIGITS ?gg_LENGTH_LIMIT ?gg_COEFFICIENT_LIMIT ?gg_RESERVED ?gl_RESERVED ?gv_RESERVED ?gz_RESERVED ?xa_Unknown ?xc_Unknown ?xr_Unknown ?xs_Unknown ?xg_Unknown ?xh_Unknown ?xn_Unknown ?xi_Unknown ?xt_Unknown ?xl_Unknown ?xq_Unknown ?xk_Unknown ?xe_Unknown ?xy_Unknown ?xd_Unknown ?xz_Unknown ?xa_Oversized ?xc_Oversized ?xr_Oversized ?xs_Oversized ?xg_Oversized ?xh_Oversized ?xn_Oversized ?xi_Oversized ?xt_Oversized ?xl_Oversized ?xq_Oversized ?xk_Oversized ?xe_Oversized ?xy_Oversized ?xd_Oversized ?xz_Oversized ?ss_COCO ?ss_CUCU ?xa_Malformed ?kk_um ?u_ha ?u_hn ?u_ht ?u_hm
    (case a0 => k_is)
    (case l0 => k_is)
    (case c0 => k_is)
    (case k0 => k_is)
    (case a1 => k_is)
    (case l1 => k_is)
    (case c1 => k_is)
    (case k1 => k_is)
    (case a2 => k_is)
    (case l2 => k_is)
    (case c2 => k_is)
    (case k2 => k_is)
    (case a3 => k_is)
    (case l3 => k_is)
    (case c3 => k_is)
    (case k3 => k_is)
    (case a4 => k_is)
    (case l4 => k_is)
    (case c4 => k_is)
    (case k4 => k_is)
    (case a5 => k_is)
    (case l5 => k_is)
    (case c5 => k_is)
    (case k5 => k_is)
    (case a6 => k_is)
    (case l6 => k_is)
    (case c6 => k_is)
    (case k6 => k_is)
    (case a7 => k_is)
    (case l7 => k_is)
    (case c7 => k_is)
    (case k7 => k_is)
    (case a8 => k_is)
    (case l8 => k_is)
    (case c8 => k_is)
    (case k8 => k_is)
    (case a9 => k_is)
    (case l9 => k_is)
    (case c9 => k_is)
    (case k9 => k_is)
    (case a10 => k_is)
    (case l10 => k_is)
    (case c10 => k_is)
    (case k10 => k_is)
    (case a11 => k_is)
    (case l11 => k_is)
    (case c11 => k_is)
    (case k11 => k_is)
    (case a12 => k_is)
    (case l12 => k_is)
    (case c12 => k_is)
    (case k12 => k_is)
    (case a13 => k_is)
    (case l13 => k_is)
    (case c13 => k_is)
    (case k13 => k_is)
    (case a14 => k_is)
    (case l14 => k_is)
    (case c14 => k_is)
    (case k14 => k_is)
    (case a15 => k_is)
    (case l15 => k_is)
    (case c15 => k_is)
    (case k15 => k_is)
    (case a16 => k_is)
    (case l16 => k_is)
    (case c16 => k_is)
    (case k16 => k_is)
    (case a17 => k_is)
    (case l17 => k_is)
    (case c17 => k_is)
    (case k17 => k_is)
    (case a18 => k_is)
    (case l18 => k_is)
    (case c18 => k_is)
    (case k18 => k_is)
    (case a19 => k_is)
    (case l19 => k_is)
    (case c19 => k_is)
    (case k19 => k_is)
    (case a20 => k_is)
    (case l20 => k_is)
    (case c20 => k_is)
    (case k20 => k_is)
    (case a21 => k_is)
    (case l21 => k_is)
    (case c21 => k_is)
    (case k21 => k_is)
    (case a22 => k_is)
    (case l22 => k_is)
    (case c22 => k_is)
    (case k22 => k_is)
    (case a23 => k_is)
    (case l23 => k_is)
    (case c23 => k_is)
    (case k23 => k_is)
    (case zz_len => k_is)
    (case zz_abs => k_is)
    (case zz_int => k_is)
    (case zz_list => k_is)
    (case zz_range => k_is)
    (case zz_str => k_is)
    (case zz_isinstance => k_is)
    (case zz_bool => k_is)
    (case zz_sorted => k_is)
    (case zz_all => k_is)
    (case zz_tuple => k_is)
    (case zz_set => k_is)
    (case zz_dict => k_is)
    (case gg_LOWER => k_is)
    (case gg_DIGITS => k_is)
    (case gg_LENGTH_LIMIT => k_is)
    (case gg_COEFFICIENT_LIMIT => k_is)
    (case gg_RESERVED => k_is)
    (case gl_RESERVED => k_is)
    (case gv_RESERVED => repeat (first | exact Paired.nil | refine Paired.cons ⟨_, rfl⟩ ?_))
    (case gz_RESERVED => decide +kernel)
    (case xa_Unknown => k_is)
    (case xc_Unknown => k_is)
    (case xr_Unknown => decide +kernel)
    (case xs_Unknown => k_is)
    (case xg_Unknown => k_is)
    (case xh_Unknown => k_is)
    (case xn_Unknown => k_is)
    (case xi_Unknown => k_is)
    (case xt_Unknown => k_is)
    (case xl_Unknown => k_is)
    (case xq_Unknown => k_is)
    (case xk_Unknown => k_is)
    (case xe_Unknown => k_is)
    (case xy_Unknown => k_is)
    (case xd_Unknown => k_is)
    (case xz_Unknown => k_is)
    (case xa_Oversized => k_is)
    (case xc_Oversized => k_is)
    (case xr_Oversized => decide +kernel)
    (case xs_Oversized => k_is)
    (case xg_Oversized => k_is)
    (case xh_Oversized => k_is)
    (case xn_Oversized => k_is)
    (case xi_Oversized => k_is)
    (case xt_Oversized => k_is)
    (case xl_Oversized => k_is)
    (case xq_Oversized => k_is)
    (case xk_Oversized => k_is)
    (case xe_Oversized => k_is)
    (case xy_Oversized => k_is)
    (case xd_Oversized => k_is)
    (case xz_Oversized => k_is)
    (case ss_COCO => first | rfl | k_is)
    (case ss_CUCU => first | rfl | k_is)
    (case xa_Malformed => k_is)
    (case kk_um => first | rfl | k_is | decide +kernel)
    (case u_ha => k_is)
    (case u_hn => k_is)
    (case u_ht => k_is)
    (case u_hm => k_is)

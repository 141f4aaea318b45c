/-
  Outcomes, plain: what becomes of a guest's frame and of a packet by an action; their cells in memory, code's and the document's. No condition.
-/
import Derived.Test.YtacbgelbffmngaaQd
import Derived.Test.YtacbgelbffmngaaZa
import Derived.Test.YtacbgelbffmngaaYd
import Derived.Test.YtacbgelbffmngaaM1
namespace Go.Proofs.Ytacbgelbffmngaa
open Go.RowKit
set_option linter.unusedVariables false
set_option linter.unusedSimpArgs false

/-- An outcome's cells; the document's. -/
def ouC15 (kd po ge st : Int) (A : Option Addr) (n c : Nat) (k o f t p g i : Int) (A2 : Option Addr) (n2 c2 : Nat) : Array Value := #[.int .i64 kd, .int .i64 po, .int .i64 ge, .int .i64 st, .slice A n c, .int .i64 k, .int .i64 o, .int .i64 f, .int .i64 t, .int .i64 p, .int .i64 g, .int .i64 i, .slice A2 n2 c2]
def roC15 (kd po ge st : Int) (b : List UInt8) (k o f t p g i : Int) (A2 : Option Addr) (n2 c2 : Nat) : Array Value := #[.int .i64 kd, .int .i64 po, .int .i64 ge, .int .i64 st, .string ⟨b.toArray⟩, .int .i64 k, .int .i64 o, .int .i64 f, .int .i64 t, .int .i64 p, .int .i64 g, .int .i64 i, .slice A2 n2 c2]
/-- An outcome. -/
structure OV where
  kd : Int
  po : Int
  ge : Int
  st : Int
  fb : List UInt8
  k : Int
  o : Int
  f : Int
  t : Int
  p : Int
  g : Int
  i : Int
  pb : List UInt8
def zOV : OV := ⟨0, 0, 0, 0, [], 0, 0, 0, 0, 0, 0, 0, []⟩
/-- Delivered; sent, if there can be such a packet. -/
def dlv15 (po ge st : Int) (b : List UInt8) : OV := ⟨1, po, ge, st, b, 0, 0, 0, 0, 0, 0, 0, []⟩
def snt15 (k o f t p g i : Int) (b : List UInt8) : OV := if pkR k o f t p g i b.length = true then ⟨2, 0, 0, 0, [], k, o, f, t, p, g, i, b⟩ else zOV
/-- What an action does with a guest's frame, and with a packet. -/
def gu15 (c : Int) (b : List UInt8) (i ak ap ao ag : Int) : OV := if ak = 1 then dlv15 ap ag ag b else if ak = 2 then snt15 1 c c ao ap ag i b else zOV
def tu15 (k o f t p g i : Int) (b : List UInt8) (ak ap ao ag : Int) : OV := if ak = 1 then dlv15 ap ag g b else if ak = 2 then (if k = 2 then zOV else snt15 2 o t ao p ag i b) else zOV
theorem gu15_1 (c : Int) (b : List UInt8) (i ap ao ag : Int) : gu15 c b i 1 ap ao ag = dlv15 ap ag ag b := rfl
theorem gu15_2 (c : Int) (b : List UInt8) (i ap ao ag : Int) : gu15 c b i 2 ap ao ag = snt15 1 c c ao ap ag i b := rfl
theorem gu15_no {ak : Int} (h1 : ¬ ak = 1) (h2 : ¬ ak = 2) (c : Int) (b : List UInt8) (i ap ao ag : Int) : gu15 c b i ak ap ao ag = zOV := by simp [gu15, h1, h2]
theorem tu15_1 (k o f t p g i : Int) (b : List UInt8) (ap ao ag : Int) : tu15 k o f t p g i b 1 ap ao ag = dlv15 ap ag g b := rfl
theorem tu15_2 (k o f t p g i : Int) (b : List UInt8) (ap ao ag : Int) : tu15 k o f t p g i b 2 ap ao ag = if k = 2 then zOV else snt15 2 o t ao p ag i b := rfl
theorem tu15_no {ak : Int} (h1 : ¬ ak = 1) (h2 : ¬ ak = 2) (k o f t p g i : Int) (b : List UInt8) (ap ao ag : Int) : tu15 k o f t p g i b ak ap ao ag = zOV := by simp [tu15, h1, h2]
theorem snt15_yes {k o f t p g i : Int} {b : List UInt8} (h : pkR k o f t p g i b.length = true) : snt15 k o f t p g i b = ⟨2, 0, 0, 0, [], k, o, f, t, p, g, i, b⟩ := if_pos h
theorem snt15_no {k o f t p g i : Int} {b : List UInt8} (h : pkR k o f t p g i b.length = false) : snt15 k o f t p g i b = zOV := by simp [snt15, h]
/-- Bytes in memory. -/
def BsM15 (w : World) (A : Option Addr) (n c : Nat) (l : List UInt8) : Prop := (A = none → c = 0) ∧ n = l.length ∧ Rds w (fun _ => True) A n (bcs l)
theorem BsM15.chg {w w' : World} {A : Option Addr} {n c : Nat} {l : List UInt8} (h : BsM15 w A n c l) (hc : Chg (fun _ => False) w w') : BsM15 w' A n c l := ⟨h.1, h.2.1, h.2.2.chg hc (fun _ _ => id)⟩
theorem BsM15.alloc {w : World} {A : Option Addr} {n c : Nat} {l : List UInt8} (h : BsM15 w A n c l) (o : Obj) : BsM15 (w.alloc o) A n c l := h.chg ((Chg.refl (fun _ => False) w).alloc o)
theorem BsM15.nil (w : World) : BsM15 w none 0 0 [] := ⟨fun _ => rfl, rfl, Rds.nil _ _ _⟩
/-- No cell is a byte. -/
def noU8 (cs : Array Value) : Prop := ∀ (j : Nat) (x : Int), cs[j]? ≠ some (.int .u8 x)
theorem noU8_of {cs : Array Value} (h : ∀ v ∈ cs.toList, ∀ x, v ≠ .int .u8 x) : noU8 cs := fun j x e => h _ (Array.mem_toList_iff.2 (Array.mem_of_getElem? e)) x rfl
theorem BsM15.put {w w' : World} {A : Option Addr} {n c q : Nat} {l : List UInt8} {T : TypeId} {cs : Array Value} (h : BsM15 w A n c l) (hb : Blk w q T cs) (hu : noU8 cs) (hc : Chg (fun k => k = q) w w') : BsM15 w' A n c l := by
  obtain ⟨h1, h2, h3⟩ := h
  refine ⟨h1, h2, ?_⟩
  have h4 : Rds w (fun k => k ≠ q) A n (bcs l) := by
    refine ⟨h3.1, fun hn => ?_⟩
    obtain ⟨ad, e, -, hlt, hcell⟩ := h3.2 hn
    refine ⟨ad, e, ?_, hlt, hcell⟩
    rintro rfl
    have hl : 0 < l.length := by omega
    have h0 := hcell 0 _ (bcs_at l 0 hl)
    rw [show ad.add 0 = ad from rfl] at h0
    unfold World.cell? at h0
    rw [show w.heap[ad.block]? = some (.cells cs T (0, 0)) from hb] at h0
    dsimp only at h0
    split at h0
    · cases h0
    · exact hu _ _ h0
  exact (h4.chg hc (fun _ h e => h e)).mono (fun _ _ => trivial)
/-- What a call hands back: an outcome; and with an error's number. -/
def HO15 (v : OV) (w : World) (e : Ending) (w' : World) : Prop := ∃ A n c A2 n2 c2, e = .returned (.agg (ouC15 v.kd v.po v.ge v.st A n c v.k v.o v.f v.t v.p v.g v.i A2 n2 c2)) ∧ BsM15 w' A n c v.fb ∧ BsM15 w' A2 n2 c2 v.pb ∧ Chg (fun _ => False) w w'
def HE15 (v : OV) (x : Int) (w : World) (e : Ending) (w' : World) : Prop := ∃ A n c A2 n2 c2, e = .returned (.tuple #[.agg (ouC15 v.kd v.po v.ge v.st A n c v.k v.o v.f v.t v.p v.g v.i A2 n2 c2), .int .i64 x]) ∧ BsM15 w' A n c v.fb ∧ BsM15 w' A2 n2 c2 v.pb ∧ Chg (fun _ => False) w w'
def RO15 (v : OV) (w : World) (e : Ending) (w' : World) : Prop := ∃ A2 n2 c2, e = .returned (.agg (roC15 v.kd v.po v.ge v.st v.fb v.k v.o v.f v.t v.p v.g v.i A2 n2 c2)) ∧ BsM15 w' A2 n2 c2 v.pb ∧ Chg (fun _ => False) w w'
def RE15 (v : OV) (x : Int) (w : World) (e : Ending) (w' : World) : Prop := ∃ A2 n2 c2, e = .returned (.tuple #[.agg (roC15 v.kd v.po v.ge v.st v.fb v.k v.o v.f v.t v.p v.g v.i A2 n2 c2), .int .i64 x]) ∧ BsM15 w' A2 n2 c2 v.pb ∧ Chg (fun _ => False) w w'
theorem ou_cells15 {w : World} {q : Nat} {T : TypeId} {kd po ge st : Int} {A : Option Addr} {n c : Nat} {k o f t p g i : Int} {A2 : Option Addr} {n2 c2 : Nat} (h : Blk w q T (ouC15 kd po ge st A n c k o f t p g i A2 n2 c2)) : w.cell? ⟨q, 0, none⟩ = some (.int .i64 kd) ∧ w.cell? ⟨q, 1, none⟩ = some (.int .i64 po) ∧ w.cell? ⟨q, 2, none⟩ = some (.int .i64 ge) ∧ w.cell? ⟨q, 3, none⟩ = some (.int .i64 st) ∧ w.cell? ⟨q, 4, none⟩ = some (.slice A n c) ∧ w.cell? ⟨q, 5, none⟩ = some (.int .i64 k) ∧ w.cell? ⟨q, 6, none⟩ = some (.int .i64 o) ∧ w.cell? ⟨q, 7, none⟩ = some (.int .i64 f) ∧ w.cell? ⟨q, 8, none⟩ = some (.int .i64 t) ∧ w.cell? ⟨q, 9, none⟩ = some (.int .i64 p) ∧ w.cell? ⟨q, 10, none⟩ = some (.int .i64 g) ∧ w.cell? ⟨q, 11, none⟩ = some (.int .i64 i) ∧ w.cell? ⟨q, 12, none⟩ = some (.slice A2 n2 c2) := by
  have h0 := h.cell 0
  have h1 := h.cell 1
  have h2 := h.cell 2
  have h3 := h.cell 3
  have h4 := h.cell 4
  have h5 := h.cell 5
  have h6 := h.cell 6
  have h7 := h.cell 7
  have h8 := h.cell 8
  have h9 := h.cell 9
  have h10 := h.cell 10
  have h11 := h.cell 11
  have h12 := h.cell 12
  simp only [ouC15, List.getElem?_toArray, List.getElem?_cons_zero, List.getElem?_cons_succ] at h0 h1 h2 h3 h4 h5 h6 h7 h8 h9 h10 h11 h12
  exact ⟨h0, h1, h2, h3, h4, h5, h6, h7, h8, h9, h10, h11, h12⟩
theorem ro_cells15 {w : World} {q : Nat} {T : TypeId} {kd po ge st : Int} {b : List UInt8} {k o f t p g i : Int} {A2 : Option Addr} {n2 c2 : Nat} (h : Blk w q T (roC15 kd po ge st b k o f t p g i A2 n2 c2)) : w.cell? ⟨q, 0, none⟩ = some (.int .i64 kd) ∧ w.cell? ⟨q, 1, none⟩ = some (.int .i64 po) ∧ w.cell? ⟨q, 2, none⟩ = some (.int .i64 ge) ∧ w.cell? ⟨q, 3, none⟩ = some (.int .i64 st) ∧ w.cell? ⟨q, 4, none⟩ = some (.string ⟨b.toArray⟩) ∧ w.cell? ⟨q, 5, none⟩ = some (.int .i64 k) ∧ w.cell? ⟨q, 6, none⟩ = some (.int .i64 o) ∧ w.cell? ⟨q, 7, none⟩ = some (.int .i64 f) ∧ w.cell? ⟨q, 8, none⟩ = some (.int .i64 t) ∧ w.cell? ⟨q, 9, none⟩ = some (.int .i64 p) ∧ w.cell? ⟨q, 10, none⟩ = some (.int .i64 g) ∧ w.cell? ⟨q, 11, none⟩ = some (.int .i64 i) ∧ w.cell? ⟨q, 12, none⟩ = some (.slice A2 n2 c2) := by
  have h0 := h.cell 0
  have h1 := h.cell 1
  have h2 := h.cell 2
  have h3 := h.cell 3
  have h4 := h.cell 4
  have h5 := h.cell 5
  have h6 := h.cell 6
  have h7 := h.cell 7
  have h8 := h.cell 8
  have h9 := h.cell 9
  have h10 := h.cell 10
  have h11 := h.cell 11
  have h12 := h.cell 12
  simp only [roC15, List.getElem?_toArray, List.getElem?_cons_zero, List.getElem?_cons_succ] at h0 h1 h2 h3 h4 h5 h6 h7 h8 h9 h10 h11 h12
  exact ⟨h0, h1, h2, h3, h4, h5, h6, h7, h8, h9, h10, h11, h12⟩
theorem ou_free15 {w : World} {r : Nat} {T : TypeId} {cs : Array Value} (h : Blk w r T cs) : w.frozen? ⟨r, 0, none⟩ = false ∧ w.frozen? ⟨r, 1, none⟩ = false ∧ w.frozen? ⟨r, 2, none⟩ = false ∧ w.frozen? ⟨r, 3, none⟩ = false ∧ w.frozen? ⟨r, 4, none⟩ = false ∧ w.frozen? ⟨r, 5, none⟩ = false ∧ w.frozen? ⟨r, 6, none⟩ = false ∧ w.frozen? ⟨r, 7, none⟩ = false ∧ w.frozen? ⟨r, 8, none⟩ = false ∧ w.frozen? ⟨r, 9, none⟩ = false ∧ w.frozen? ⟨r, 10, none⟩ = false ∧ w.frozen? ⟨r, 11, none⟩ = false ∧ w.frozen? ⟨r, 12, none⟩ = false := ⟨h.frozen 0, h.frozen 1, h.frozen 2, h.frozen 3, h.frozen 4, h.frozen 5, h.frozen 6, h.frozen 7, h.frozen 8, h.frozen 9, h.frozen 10, h.frozen 11, h.frozen 12⟩
set_option maxRecDepth 100000 in
set_option maxHeartbeats 2000000 in
theorem ou_put15 {w : World} {r : Nat} {T : TypeId} {cs : Array Value} (hb : Blk w r T cs) (hs : cs.size = 13) (kd po ge st : Int) (A : Option Addr) (n c : Nat) (k o f t p g i : Int) (A2 : Option Addr) (n2 c2 : Nat) :
    (w.setCell ⟨r, 0, none⟩ (.int .i64 kd)).cell? ⟨r, 0, none⟩ = some (.int .i64 kd) ∧ ((w.setCell ⟨r, 0, none⟩ (.int .i64 kd)).setCell ⟨r, 1, none⟩ (.int .i64 po)).cell? ⟨r, 1, none⟩ = some (.int .i64 po) ∧ (((w.setCell ⟨r, 0, none⟩ (.int .i64 kd)).setCell ⟨r, 1, none⟩ (.int .i64 po)).setCell ⟨r, 2, none⟩ (.int .i64 ge)).cell? ⟨r, 2, none⟩ = some (.int .i64 ge) ∧ ((((w.setCell ⟨r, 0, none⟩ (.int .i64 kd)).setCell ⟨r, 1, none⟩ (.int .i64 po)).setCell ⟨r, 2, none⟩ (.int .i64 ge)).setCell ⟨r, 3, none⟩ (.int .i64 st)).cell? ⟨r, 3, none⟩ = some (.int .i64 st) ∧ (((((w.setCell ⟨r, 0, none⟩ (.int .i64 kd)).setCell ⟨r, 1, none⟩ (.int .i64 po)).setCell ⟨r, 2, none⟩ (.int .i64 ge)).setCell ⟨r, 3, none⟩ (.int .i64 st)).setCell ⟨r, 4, none⟩ (.slice A n c)).cell? ⟨r, 4, none⟩ = some (.slice A n c) ∧ ((((((w.setCell ⟨r, 0, none⟩ (.int .i64 kd)).setCell ⟨r, 1, none⟩ (.int .i64 po)).setCell ⟨r, 2, none⟩ (.int .i64 ge)).setCell ⟨r, 3, none⟩ (.int .i64 st)).setCell ⟨r, 4, none⟩ (.slice A n c)).setCell ⟨r, 5, none⟩ (.int .i64 k)).cell? ⟨r, 5, none⟩ = some (.int .i64 k) ∧ (((((((w.setCell ⟨r, 0, none⟩ (.int .i64 kd)).setCell ⟨r, 1, none⟩ (.int .i64 po)).setCell ⟨r, 2, none⟩ (.int .i64 ge)).setCell ⟨r, 3, none⟩ (.int .i64 st)).setCell ⟨r, 4, none⟩ (.slice A n c)).setCell ⟨r, 5, none⟩ (.int .i64 k)).setCell ⟨r, 6, none⟩ (.int .i64 o)).cell? ⟨r, 6, none⟩ = some (.int .i64 o) ∧ ((((((((w.setCell ⟨r, 0, none⟩ (.int .i64 kd)).setCell ⟨r, 1, none⟩ (.int .i64 po)).setCell ⟨r, 2, none⟩ (.int .i64 ge)).setCell ⟨r, 3, none⟩ (.int .i64 st)).setCell ⟨r, 4, none⟩ (.slice A n c)).setCell ⟨r, 5, none⟩ (.int .i64 k)).setCell ⟨r, 6, none⟩ (.int .i64 o)).setCell ⟨r, 7, none⟩ (.int .i64 f)).cell? ⟨r, 7, none⟩ = some (.int .i64 f) ∧ (((((((((w.setCell ⟨r, 0, none⟩ (.int .i64 kd)).setCell ⟨r, 1, none⟩ (.int .i64 po)).setCell ⟨r, 2, none⟩ (.int .i64 ge)).setCell ⟨r, 3, none⟩ (.int .i64 st)).setCell ⟨r, 4, none⟩ (.slice A n c)).setCell ⟨r, 5, none⟩ (.int .i64 k)).setCell ⟨r, 6, none⟩ (.int .i64 o)).setCell ⟨r, 7, none⟩ (.int .i64 f)).setCell ⟨r, 8, none⟩ (.int .i64 t)).cell? ⟨r, 8, none⟩ = some (.int .i64 t) ∧ ((((((((((w.setCell ⟨r, 0, none⟩ (.int .i64 kd)).setCell ⟨r, 1, none⟩ (.int .i64 po)).setCell ⟨r, 2, none⟩ (.int .i64 ge)).setCell ⟨r, 3, none⟩ (.int .i64 st)).setCell ⟨r, 4, none⟩ (.slice A n c)).setCell ⟨r, 5, none⟩ (.int .i64 k)).setCell ⟨r, 6, none⟩ (.int .i64 o)).setCell ⟨r, 7, none⟩ (.int .i64 f)).setCell ⟨r, 8, none⟩ (.int .i64 t)).setCell ⟨r, 9, none⟩ (.int .i64 p)).cell? ⟨r, 9, none⟩ = some (.int .i64 p) ∧ (((((((((((w.setCell ⟨r, 0, none⟩ (.int .i64 kd)).setCell ⟨r, 1, none⟩ (.int .i64 po)).setCell ⟨r, 2, none⟩ (.int .i64 ge)).setCell ⟨r, 3, none⟩ (.int .i64 st)).setCell ⟨r, 4, none⟩ (.slice A n c)).setCell ⟨r, 5, none⟩ (.int .i64 k)).setCell ⟨r, 6, none⟩ (.int .i64 o)).setCell ⟨r, 7, none⟩ (.int .i64 f)).setCell ⟨r, 8, none⟩ (.int .i64 t)).setCell ⟨r, 9, none⟩ (.int .i64 p)).setCell ⟨r, 10, none⟩ (.int .i64 g)).cell? ⟨r, 10, none⟩ = some (.int .i64 g) ∧ ((((((((((((w.setCell ⟨r, 0, none⟩ (.int .i64 kd)).setCell ⟨r, 1, none⟩ (.int .i64 po)).setCell ⟨r, 2, none⟩ (.int .i64 ge)).setCell ⟨r, 3, none⟩ (.int .i64 st)).setCell ⟨r, 4, none⟩ (.slice A n c)).setCell ⟨r, 5, none⟩ (.int .i64 k)).setCell ⟨r, 6, none⟩ (.int .i64 o)).setCell ⟨r, 7, none⟩ (.int .i64 f)).setCell ⟨r, 8, none⟩ (.int .i64 t)).setCell ⟨r, 9, none⟩ (.int .i64 p)).setCell ⟨r, 10, none⟩ (.int .i64 g)).setCell ⟨r, 11, none⟩ (.int .i64 i)).cell? ⟨r, 11, none⟩ = some (.int .i64 i) ∧ (((((((((((((w.setCell ⟨r, 0, none⟩ (.int .i64 kd)).setCell ⟨r, 1, none⟩ (.int .i64 po)).setCell ⟨r, 2, none⟩ (.int .i64 ge)).setCell ⟨r, 3, none⟩ (.int .i64 st)).setCell ⟨r, 4, none⟩ (.slice A n c)).setCell ⟨r, 5, none⟩ (.int .i64 k)).setCell ⟨r, 6, none⟩ (.int .i64 o)).setCell ⟨r, 7, none⟩ (.int .i64 f)).setCell ⟨r, 8, none⟩ (.int .i64 t)).setCell ⟨r, 9, none⟩ (.int .i64 p)).setCell ⟨r, 10, none⟩ (.int .i64 g)).setCell ⟨r, 11, none⟩ (.int .i64 i)).setCell ⟨r, 12, none⟩ (.slice A2 n2 c2)).cell? ⟨r, 12, none⟩ = some (.slice A2 n2 c2) ∧ Chg (fun k => k = r) w (((((((((((((w.setCell ⟨r, 0, none⟩ (.int .i64 kd)).setCell ⟨r, 1, none⟩ (.int .i64 po)).setCell ⟨r, 2, none⟩ (.int .i64 ge)).setCell ⟨r, 3, none⟩ (.int .i64 st)).setCell ⟨r, 4, none⟩ (.slice A n c)).setCell ⟨r, 5, none⟩ (.int .i64 k)).setCell ⟨r, 6, none⟩ (.int .i64 o)).setCell ⟨r, 7, none⟩ (.int .i64 f)).setCell ⟨r, 8, none⟩ (.int .i64 t)).setCell ⟨r, 9, none⟩ (.int .i64 p)).setCell ⟨r, 10, none⟩ (.int .i64 g)).setCell ⟨r, 11, none⟩ (.int .i64 i)).setCell ⟨r, 12, none⟩ (.slice A2 n2 c2)) := by
  have h0 := hb.set 0 (.int .i64 kd)
  have r0 := h0.cell 0
  rw [Array.getElem?_setIfInBounds_self_of_lt (by simp [hs])] at r0
  have h1 := h0.set 1 (.int .i64 po)
  have r1 := h1.cell 1
  rw [Array.getElem?_setIfInBounds_self_of_lt (by simp [hs])] at r1
  have h2 := h1.set 2 (.int .i64 ge)
  have r2 := h2.cell 2
  rw [Array.getElem?_setIfInBounds_self_of_lt (by simp [hs])] at r2
  have h3 := h2.set 3 (.int .i64 st)
  have r3 := h3.cell 3
  rw [Array.getElem?_setIfInBounds_self_of_lt (by simp [hs])] at r3
  have h4 := h3.set 4 (.slice A n c)
  have r4 := h4.cell 4
  rw [Array.getElem?_setIfInBounds_self_of_lt (by simp [hs])] at r4
  have h5 := h4.set 5 (.int .i64 k)
  have r5 := h5.cell 5
  rw [Array.getElem?_setIfInBounds_self_of_lt (by simp [hs])] at r5
  have h6 := h5.set 6 (.int .i64 o)
  have r6 := h6.cell 6
  rw [Array.getElem?_setIfInBounds_self_of_lt (by simp [hs])] at r6
  have h7 := h6.set 7 (.int .i64 f)
  have r7 := h7.cell 7
  rw [Array.getElem?_setIfInBounds_self_of_lt (by simp [hs])] at r7
  have h8 := h7.set 8 (.int .i64 t)
  have r8 := h8.cell 8
  rw [Array.getElem?_setIfInBounds_self_of_lt (by simp [hs])] at r8
  have h9 := h8.set 9 (.int .i64 p)
  have r9 := h9.cell 9
  rw [Array.getElem?_setIfInBounds_self_of_lt (by simp [hs])] at r9
  have h10 := h9.set 10 (.int .i64 g)
  have r10 := h10.cell 10
  rw [Array.getElem?_setIfInBounds_self_of_lt (by simp [hs])] at r10
  have h11 := h10.set 11 (.int .i64 i)
  have r11 := h11.cell 11
  rw [Array.getElem?_setIfInBounds_self_of_lt (by simp [hs])] at r11
  have h12 := h11.set 12 (.slice A2 n2 c2)
  have r12 := h12.cell 12
  rw [Array.getElem?_setIfInBounds_self_of_lt (by simp [hs])] at r12
  exact ⟨r0, r1, r2, r3, r4, r5, r6, r7, r8, r9, r10, r11, r12, (((((((((((((Chg.refl (fun k => k = r) w).put r 0 (fun _ => rfl) _).put r 1 (fun _ => rfl) _).put r 2 (fun _ => rfl) _).put r 3 (fun _ => rfl) _).put r 4 (fun _ => rfl) _).put r 5 (fun _ => rfl) _).put r 6 (fun _ => rfl) _).put r 7 (fun _ => rfl) _).put r 8 (fun _ => rfl) _).put r 9 (fun _ => rfl) _).put r 10 (fun _ => rfl) _).put r 11 (fun _ => rfl) _).put r 12 (fun _ => rfl) _⟩
set_option maxRecDepth 100000 in
set_option maxHeartbeats 2000000 in
theorem ro_put15 {w : World} {r : Nat} {T : TypeId} {cs : Array Value} (hb : Blk w r T cs) (hs : cs.size = 13) (kd po ge st : Int) (b : List UInt8) (k o f t p g i : Int) (A2 : Option Addr) (n2 c2 : Nat) :
    (w.setCell ⟨r, 0, none⟩ (.int .i64 kd)).cell? ⟨r, 0, none⟩ = some (.int .i64 kd) ∧ ((w.setCell ⟨r, 0, none⟩ (.int .i64 kd)).setCell ⟨r, 1, none⟩ (.int .i64 po)).cell? ⟨r, 1, none⟩ = some (.int .i64 po) ∧ (((w.setCell ⟨r, 0, none⟩ (.int .i64 kd)).setCell ⟨r, 1, none⟩ (.int .i64 po)).setCell ⟨r, 2, none⟩ (.int .i64 ge)).cell? ⟨r, 2, none⟩ = some (.int .i64 ge) ∧ ((((w.setCell ⟨r, 0, none⟩ (.int .i64 kd)).setCell ⟨r, 1, none⟩ (.int .i64 po)).setCell ⟨r, 2, none⟩ (.int .i64 ge)).setCell ⟨r, 3, none⟩ (.int .i64 st)).cell? ⟨r, 3, none⟩ = some (.int .i64 st) ∧ (((((w.setCell ⟨r, 0, none⟩ (.int .i64 kd)).setCell ⟨r, 1, none⟩ (.int .i64 po)).setCell ⟨r, 2, none⟩ (.int .i64 ge)).setCell ⟨r, 3, none⟩ (.int .i64 st)).setCell ⟨r, 4, none⟩ (.string ⟨b.toArray⟩)).cell? ⟨r, 4, none⟩ = some (.string ⟨b.toArray⟩) ∧ ((((((w.setCell ⟨r, 0, none⟩ (.int .i64 kd)).setCell ⟨r, 1, none⟩ (.int .i64 po)).setCell ⟨r, 2, none⟩ (.int .i64 ge)).setCell ⟨r, 3, none⟩ (.int .i64 st)).setCell ⟨r, 4, none⟩ (.string ⟨b.toArray⟩)).setCell ⟨r, 5, none⟩ (.int .i64 k)).cell? ⟨r, 5, none⟩ = some (.int .i64 k) ∧ (((((((w.setCell ⟨r, 0, none⟩ (.int .i64 kd)).setCell ⟨r, 1, none⟩ (.int .i64 po)).setCell ⟨r, 2, none⟩ (.int .i64 ge)).setCell ⟨r, 3, none⟩ (.int .i64 st)).setCell ⟨r, 4, none⟩ (.string ⟨b.toArray⟩)).setCell ⟨r, 5, none⟩ (.int .i64 k)).setCell ⟨r, 6, none⟩ (.int .i64 o)).cell? ⟨r, 6, none⟩ = some (.int .i64 o) ∧ ((((((((w.setCell ⟨r, 0, none⟩ (.int .i64 kd)).setCell ⟨r, 1, none⟩ (.int .i64 po)).setCell ⟨r, 2, none⟩ (.int .i64 ge)).setCell ⟨r, 3, none⟩ (.int .i64 st)).setCell ⟨r, 4, none⟩ (.string ⟨b.toArray⟩)).setCell ⟨r, 5, none⟩ (.int .i64 k)).setCell ⟨r, 6, none⟩ (.int .i64 o)).setCell ⟨r, 7, none⟩ (.int .i64 f)).cell? ⟨r, 7, none⟩ = some (.int .i64 f) ∧ (((((((((w.setCell ⟨r, 0, none⟩ (.int .i64 kd)).setCell ⟨r, 1, none⟩ (.int .i64 po)).setCell ⟨r, 2, none⟩ (.int .i64 ge)).setCell ⟨r, 3, none⟩ (.int .i64 st)).setCell ⟨r, 4, none⟩ (.string ⟨b.toArray⟩)).setCell ⟨r, 5, none⟩ (.int .i64 k)).setCell ⟨r, 6, none⟩ (.int .i64 o)).setCell ⟨r, 7, none⟩ (.int .i64 f)).setCell ⟨r, 8, none⟩ (.int .i64 t)).cell? ⟨r, 8, none⟩ = some (.int .i64 t) ∧ ((((((((((w.setCell ⟨r, 0, none⟩ (.int .i64 kd)).setCell ⟨r, 1, none⟩ (.int .i64 po)).setCell ⟨r, 2, none⟩ (.int .i64 ge)).setCell ⟨r, 3, none⟩ (.int .i64 st)).setCell ⟨r, 4, none⟩ (.string ⟨b.toArray⟩)).setCell ⟨r, 5, none⟩ (.int .i64 k)).setCell ⟨r, 6, none⟩ (.int .i64 o)).setCell ⟨r, 7, none⟩ (.int .i64 f)).setCell ⟨r, 8, none⟩ (.int .i64 t)).setCell ⟨r, 9, none⟩ (.int .i64 p)).cell? ⟨r, 9, none⟩ = some (.int .i64 p) ∧ (((((((((((w.setCell ⟨r, 0, none⟩ (.int .i64 kd)).setCell ⟨r, 1, none⟩ (.int .i64 po)).setCell ⟨r, 2, none⟩ (.int .i64 ge)).setCell ⟨r, 3, none⟩ (.int .i64 st)).setCell ⟨r, 4, none⟩ (.string ⟨b.toArray⟩)).setCell ⟨r, 5, none⟩ (.int .i64 k)).setCell ⟨r, 6, none⟩ (.int .i64 o)).setCell ⟨r, 7, none⟩ (.int .i64 f)).setCell ⟨r, 8, none⟩ (.int .i64 t)).setCell ⟨r, 9, none⟩ (.int .i64 p)).setCell ⟨r, 10, none⟩ (.int .i64 g)).cell? ⟨r, 10, none⟩ = some (.int .i64 g) ∧ ((((((((((((w.setCell ⟨r, 0, none⟩ (.int .i64 kd)).setCell ⟨r, 1, none⟩ (.int .i64 po)).setCell ⟨r, 2, none⟩ (.int .i64 ge)).setCell ⟨r, 3, none⟩ (.int .i64 st)).setCell ⟨r, 4, none⟩ (.string ⟨b.toArray⟩)).setCell ⟨r, 5, none⟩ (.int .i64 k)).setCell ⟨r, 6, none⟩ (.int .i64 o)).setCell ⟨r, 7, none⟩ (.int .i64 f)).setCell ⟨r, 8, none⟩ (.int .i64 t)).setCell ⟨r, 9, none⟩ (.int .i64 p)).setCell ⟨r, 10, none⟩ (.int .i64 g)).setCell ⟨r, 11, none⟩ (.int .i64 i)).cell? ⟨r, 11, none⟩ = some (.int .i64 i) ∧ (((((((((((((w.setCell ⟨r, 0, none⟩ (.int .i64 kd)).setCell ⟨r, 1, none⟩ (.int .i64 po)).setCell ⟨r, 2, none⟩ (.int .i64 ge)).setCell ⟨r, 3, none⟩ (.int .i64 st)).setCell ⟨r, 4, none⟩ (.string ⟨b.toArray⟩)).setCell ⟨r, 5, none⟩ (.int .i64 k)).setCell ⟨r, 6, none⟩ (.int .i64 o)).setCell ⟨r, 7, none⟩ (.int .i64 f)).setCell ⟨r, 8, none⟩ (.int .i64 t)).setCell ⟨r, 9, none⟩ (.int .i64 p)).setCell ⟨r, 10, none⟩ (.int .i64 g)).setCell ⟨r, 11, none⟩ (.int .i64 i)).setCell ⟨r, 12, none⟩ (.slice A2 n2 c2)).cell? ⟨r, 12, none⟩ = some (.slice A2 n2 c2) ∧ Chg (fun k => k = r) w (((((((((((((w.setCell ⟨r, 0, none⟩ (.int .i64 kd)).setCell ⟨r, 1, none⟩ (.int .i64 po)).setCell ⟨r, 2, none⟩ (.int .i64 ge)).setCell ⟨r, 3, none⟩ (.int .i64 st)).setCell ⟨r, 4, none⟩ (.string ⟨b.toArray⟩)).setCell ⟨r, 5, none⟩ (.int .i64 k)).setCell ⟨r, 6, none⟩ (.int .i64 o)).setCell ⟨r, 7, none⟩ (.int .i64 f)).setCell ⟨r, 8, none⟩ (.int .i64 t)).setCell ⟨r, 9, none⟩ (.int .i64 p)).setCell ⟨r, 10, none⟩ (.int .i64 g)).setCell ⟨r, 11, none⟩ (.int .i64 i)).setCell ⟨r, 12, none⟩ (.slice A2 n2 c2)) := by
  have h0 := hb.set 0 (.int .i64 kd)
  have r0 := h0.cell 0
  rw [Array.getElem?_setIfInBounds_self_of_lt (by simp [hs])] at r0
  have h1 := h0.set 1 (.int .i64 po)
  have r1 := h1.cell 1
  rw [Array.getElem?_setIfInBounds_self_of_lt (by simp [hs])] at r1
  have h2 := h1.set 2 (.int .i64 ge)
  have r2 := h2.cell 2
  rw [Array.getElem?_setIfInBounds_self_of_lt (by simp [hs])] at r2
  have h3 := h2.set 3 (.int .i64 st)
  have r3 := h3.cell 3
  rw [Array.getElem?_setIfInBounds_self_of_lt (by simp [hs])] at r3
  have h4 := h3.set 4 (.string ⟨b.toArray⟩)
  have r4 := h4.cell 4
  rw [Array.getElem?_setIfInBounds_self_of_lt (by simp [hs])] at r4
  have h5 := h4.set 5 (.int .i64 k)
  have r5 := h5.cell 5
  rw [Array.getElem?_setIfInBounds_self_of_lt (by simp [hs])] at r5
  have h6 := h5.set 6 (.int .i64 o)
  have r6 := h6.cell 6
  rw [Array.getElem?_setIfInBounds_self_of_lt (by simp [hs])] at r6
  have h7 := h6.set 7 (.int .i64 f)
  have r7 := h7.cell 7
  rw [Array.getElem?_setIfInBounds_self_of_lt (by simp [hs])] at r7
  have h8 := h7.set 8 (.int .i64 t)
  have r8 := h8.cell 8
  rw [Array.getElem?_setIfInBounds_self_of_lt (by simp [hs])] at r8
  have h9 := h8.set 9 (.int .i64 p)
  have r9 := h9.cell 9
  rw [Array.getElem?_setIfInBounds_self_of_lt (by simp [hs])] at r9
  have h10 := h9.set 10 (.int .i64 g)
  have r10 := h10.cell 10
  rw [Array.getElem?_setIfInBounds_self_of_lt (by simp [hs])] at r10
  have h11 := h10.set 11 (.int .i64 i)
  have r11 := h11.cell 11
  rw [Array.getElem?_setIfInBounds_self_of_lt (by simp [hs])] at r11
  have h12 := h11.set 12 (.slice A2 n2 c2)
  have r12 := h12.cell 12
  rw [Array.getElem?_setIfInBounds_self_of_lt (by simp [hs])] at r12
  exact ⟨r0, r1, r2, r3, r4, r5, r6, r7, r8, r9, r10, r11, r12, (((((((((((((Chg.refl (fun k => k = r) w).put r 0 (fun _ => rfl) _).put r 1 (fun _ => rfl) _).put r 2 (fun _ => rfl) _).put r 3 (fun _ => rfl) _).put r 4 (fun _ => rfl) _).put r 5 (fun _ => rfl) _).put r 6 (fun _ => rfl) _).put r 7 (fun _ => rfl) _).put r 8 (fun _ => rfl) _).put r 9 (fun _ => rfl) _).put r 10 (fun _ => rfl) _).put r 11 (fun _ => rfl) _).put r 12 (fun _ => rfl) _⟩
theorem noU8_ou {kd po ge st : Int} {A : Option Addr} {n c : Nat} {k o f t p g i : Int} {A2 : Option Addr} {n2 c2 : Nat} : noU8 (ouC15 kd po ge st A n c k o f t p g i A2 n2 c2) := noU8_of (by
  intro v hv x
  simp only [ouC15, List.mem_cons, List.not_mem_nil, or_false] at hv
  rcases hv with rfl | rfl | rfl | rfl | rfl | rfl | rfl | rfl | rfl | rfl | rfl | rfl | rfl <;> simp)
theorem noU8_ro {kd po ge st : Int} {b : List UInt8} {k o f t p g i : Int} {A2 : Option Addr} {n2 c2 : Nat} : noU8 (roC15 kd po ge st b k o f t p g i A2 n2 c2) := noU8_of (by
  intro v hv x
  simp only [roC15, List.mem_cons, List.not_mem_nil, or_false] at hv
  rcases hv with rfl | rfl | rfl | rfl | rfl | rfl | rfl | rfl | rfl | rfl | rfl | rfl | rfl <;> simp)

end Go.Proofs.Ytacbgelbffmngaa

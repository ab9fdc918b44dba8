"""The memory, and the classical way to keep one register, as programs."""

from silentlinks.printing import lots_text

# Both programs: k, a, o, v and h are the clocks, the stores and the heard clocks of the cards, and
# phase is 0 without a tour, 1 as long as it is not echoed, 2 until it has ended and 3 behind that.

MEMORY_HEAD = """machine memory
cells going stage phase half start number stamp late
cells puta puto putv topa topo topv
rows k a o v
grids h
"""

CLASSIC_HEAD = """machine classic
cells going stage phase start putv topa topo topv
rows k a o v
grids h
"""

KNOWN = """part known
  topa = 0
  topo = 0
  topv = 0
  each j
    if a[j] = topa and o[j] > topo
      topo = o[j]
      topv = v[j]
    if a[j] > topa
      topa = a[j]
      topo = o[j]
      topv = v[j]
part card
  k[me] = k[me] + 1
  each j
    h[me][j] = k[j]
"""

MEMORY_LOOK = """part over
  going = 0
  if deed = 1
    answer putv
  else
    answer given
part done
  phase = 0
  stage = stage + 1
  stamp = number + 1
  if stage = 1 and deed = 1 and late = 0
    do over
  if stage = 2
    do over
part look
  if phase = 1
    first asked x needs h[x][me] >= start
      number = number max k[x]
      phase = 2
  if phase = 2 and half = 1
    do done
  if phase = 2
    first heard x needs k[x] >= number
      phase = 3
      if a[x] = puta and o[x] > puto
        late = 1
      if a[x] > puta
        late = 1
  if phase = 3
    do done
part stamping
  if stamp = topa and me + 1 > topo
    topo = me + 1
    topv = given
  if stamp > topa
    topa = stamp
    topo = me + 1
    topv = given
"""

TICK = """tick
  do look
  do known
  do card
  if going = 1 and phase = 0
    phase = 1
    start = k[me]
"""

MEMORY_BEGIN = """    late = 0
    half = 0
    if deed = 2 and stage = 0
      half = 1
    if deed = 2 and stage = 1
      do stamping
    number = topa
    puta = topa
    puto = topo
    putv = topv
"""

TICK_END = """  a[me] = topa
  o[me] = topo
  v[me] = topv
  do look"""

CLASSIC_LOOK = """part done
  phase = 0
  stage = stage + 1
  if stage = 2
    going = 0
    if deed = 1
      answer putv
    else
      answer given
part look
  if phase = 1
    first asked x needs h[x][me] >= start
      phase = 2
  if phase = 2
    do done
"""

CLASSIC_BEGIN = """    if deed = 2 and stage = 1
      topa = topa + 1
      topo = me + 1
      topv = given
    putv = topv
"""

# A propose and a tour are taken by every program, but these two do nothing with them.
BEGIN_AND_HEAR = """begin
  stage = 0
  if deed <= 2
    going = 1
hear
  each j
    if their k[j] > k[j]
      k[j] = their k[j]
      a[j] = their a[j]
      o[j] = their o[j]
      v[j] = their v[j]
      each i
        h[j][i] = their h[j][i]
"""


def table_line(name, lots):
    """The line of a table of lots, with the line feed behind it."""
    return f"lots {name} {lots_text(lots)}\n"


def memory_text(lots):
    """The text of a program that does what the Memory of these lots does with register 0."""
    tables = table_line("asked", lots.asked) + table_line("heard", lots.heard)
    return MEMORY_HEAD + tables + KNOWN + MEMORY_LOOK + BEGIN_AND_HEAR + TICK + MEMORY_BEGIN + TICK_END


def classic_text(lots):
    """The text of a program that keeps register 0 by two half tours for each deed, with the asked lots alone."""
    table = table_line("asked", lots.asked)
    return CLASSIC_HEAD + table + KNOWN + CLASSIC_LOOK + BEGIN_AND_HEAR + TICK + CLASSIC_BEGIN + TICK_END

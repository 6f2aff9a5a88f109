"""Whole nights, from a text to the last row of the book [7.2] to [7.7]."""

import unittest

from nightwatch.booktexts import booktext, read_book, row_text
from nightwatch.nights import Night
from nightwatch.reader import read

# Each scene: what it shows, the text, events, picks, the knot in the end, and the whole book.
SCENES = (
    ("waits by the clock",
     """errand main
  wait 3
  wait 2
  give 7
end""",
     [], [], ([], [], []),
     """0 0 wait 2 3 / - / -
3 clock woke 0 / - / 0
3 0 wait 3 2 / - / -
5 clock woke 0 / - / 0
5 0 did 4 / - / -
5 0 ended 0 value 7 / - / -"""),
    ("a bell that two hear",
     """errand ear
  hear gate
  give 1
end
errand main
  group g
    begin a ear in g
    begin b ear in g
    wait 1
    ring gate
    ring gate
  end
end""",
     [], [], ([], [], []),
     """0 0 group 6 1 / - / -
0 0 begin 7 a ear 1 0 / - / 1
0 1 hear 2 gate / - / -
0 0 begin 8 b ear 1 0 / - / 2
0 2 hear 2 gate / - / -
0 0 wait 9 1 / - / -
1 clock woke 0 / - / 0
1 0 ring 10 gate / - / 1 2
1 1 did 3 / - / -
1 2 did 3 / - / -
1 0 ring 11 gate / - / -
1 1 ended 0 value 1 / - / -
1 2 ended 0 value 1 / - / -
1 0 join 6 1 / - / -
1 0 left 6 1 / - / -
1 0 ended 0 value 0 / - / -"""),
    ("letters that lie there and takers that wait",
     """errand taker
  take post x
  give x
end
errand main
  group g
    send post 4
    send post :w
    begin a taker in g
    begin b taker in g
    begin c taker in g
    wait 1
    let y 9
    send post y
    ask a p
    ask b q
    ask c r
  end
end""",
     [], [], ([], [], []),
     """0 0 group 6 1 / - / -
0 0 send 7 post 4 / - / -
0 0 send 8 post :w / - / -
0 0 begin 9 a taker 1 0 / - / 1
0 1 take 2 post x / - / -
0 0 begin 10 b taker 1 0 / - / 2
0 1 did 3 / - / -
0 2 take 2 post x / - / -
0 0 begin 11 c taker 1 0 / - / 3
0 1 ended 0 value 4 / - / -
0 2 did 3 / - / -
0 3 take 2 post x / - / -
0 0 wait 12 1 / - / -
0 2 ended 0 value :w / - / -
1 clock woke 0 / - / 0
1 0 did 13 / - / -
1 0 send 14 post 9 / - / 3
1 3 did 3 / - / -
1 0 ask 15 a p / - / -
1 3 ended 0 value 9 / - / -
1 0 ask 16 b q / - / -
1 0 ask 17 c r / - / -
1 0 join 6 1 / - / -
1 0 left 6 1 / - / -
1 0 ended 0 value 0 / - / -"""),
    ("an ask of one that ended with faults",
     """errand bad
  raise lost
end
errand slow
  wait 9
end
errand main
  group g
    begin a bad in g
    keep
      ask a x
      send post x
    end
  end
end""",
     [], [], ([], [], []),
     """0 0 group 8 1 / - / -
0 0 begin 9 a bad 1 0 / - / 1
0 1 raise 2 lost / - / -
0 0 did 10 / - / -
0 1 ended 0 faults lost / 0 1 off / -
0 0 ask 11 a x / - / -
0 0 send 12 post :lost / - / -
0 0 halt 8 1 - / - / -
0 0 left 8 1 / - / -
0 0 ended 0 faults lost / - / -"""),
    ("asks of nobody",
     """errand run
end
errand main
  try
    ask a x
  but nobody
    ring z
  end
  group g
    begin a run in g
  end
  ask a x
end""",
     [], [], ([], [], []),
     """0 0 did 4 / - / -
0 0 ask 5 a x / - / -
0 0 caught 4 nobody / - / -
0 0 ring 7 z / - / -
0 0 group 9 1 / - / -
0 0 begin 10 a run 1 0 / - / 1
0 1 ended 0 value 0 / - / -
0 0 join 9 1 / - / -
0 0 left 9 1 / - / -
0 0 ask 12 a x / - / -
0 0 ended 0 faults nobody / - / -"""),
    ("a limit that comes and one that is left ahead of its time",
     """errand main
  limit 3
    wait 9
  late
    ring a
  end
  limit 5
    wait 2
  end
  wait 1
end""",
     [], [], ([], [], []),
     """0 0 limit 2 1 3 / - / -
0 0 wait 3 9 / - / -
3 clock late 0 1 / 0 1 late / 0
3 0 late 2 1 / - / -
3 0 ring 5 a / - / -
3 0 limit 7 2 5 / - / -
3 0 wait 8 2 / - / -
5 clock woke 0 / - / 0
5 0 wait 10 1 / - / -
6 clock woke 0 / - / 0
6 0 ended 0 value 0 / - / -"""),
    ("errands with a limit of their own",
     """errand run
  do
    wait 9
  last
    wait 1
    ring z
  end
end
errand main
  group g
    begin a run in g within 4
    ask a x
    send post x
    begin b run in g within 20
  end
end""",
     [], [], ([], [], []),
     """0 0 group 10 1 / - / -
0 0 begin 11 a run 1 4 / - / 1
0 1 did 2 / - / -
0 0 ask 12 a x / - / -
0 1 wait 3 9 / - / -
4 clock late 1 0 / 1 0 late / 1
4 1 clean 2 / - / -
4 1 wait 5 1 / - / -
5 clock woke 1 / - / 1
5 1 ring 6 z / - / -
5 1 ended 0 late / - / 0
5 0 send 13 post :late / - / -
5 0 begin 14 b run 1 20 / - / 2
5 2 did 2 / - / -
5 0 join 10 1 / - / -
5 2 wait 3 9 / - / -
14 clock woke 2 / - / 2
14 2 clean 2 / - / -
14 2 wait 5 1 / - / -
15 clock woke 2 / - / 2
15 2 ring 6 z / - / -
15 2 ended 0 value 0 / - / 0
15 0 left 10 1 / - / -
15 0 ended 0 value 0 / - / -"""),
    ("errands and a group that are called off",
     """errand run
  do
    hear never
  last
    wait 1
  end
end
errand main
  group g
    begin a run in g
    begin b run in g
    wait 1
    off a
    ask a x
    off a
    off g
    begin c run in g
    wait 5
    ring z
  end
  ring y
end""",
     [], [], ([], [], []),
     """0 0 group 9 1 / - / -
0 0 begin 10 a run 1 0 / - / 1
0 1 did 2 / - / -
0 0 begin 11 b run 1 0 / - / 2
0 1 hear 3 never / - / -
0 2 did 2 / - / -
0 0 wait 12 1 / - / -
0 2 hear 3 never / - / -
1 clock woke 0 / - / 0
1 0 off 13 a / 1 0 off / 1
1 1 clean 2 / - / -
1 0 ask 14 a x / - / -
1 1 wait 5 1 / - / -
2 clock woke 1 / - / 1
2 1 ended 0 off / - / 0
2 0 off 15 a / - / -
2 0 off 16 1 / 0 1 off 2 0 off / 2
2 2 clean 2 / - / -
2 0 begin 17 c run 1 0 / 3 0 off / 3
2 2 wait 5 1 / - / -
2 3 did 2 / - / -
2 0 halt 9 1 - / - / -
2 3 clean 2 / - / -
2 3 wait 5 1 / - / -
3 clock woke 2 / - / 2
3 clock woke 3 / - / 3
3 2 ended 0 off / - / -
3 3 ended 0 off / - / 0
3 0 left 9 1 / - / -
3 0 ring 21 y / - / -
3 0 ended 0 value 0 / - / -"""),
    ("faults of errands that end a group",
     """errand bad
  wait 1
  raise lost
end
errand worse
  try
    hear never
  but any
  end
end
errand main
  try
    group g
      begin a bad in g
      begin b worse in g
      begin c bad in g
    end
  but lost
    ring z
  end
end""",
     [], [], ([], [], []),
     """0 0 did 12 / - / -
0 0 group 13 1 / - / -
0 0 begin 14 a bad 1 0 / - / 1
0 1 wait 2 1 / - / -
0 0 begin 15 b worse 1 0 / - / 2
0 2 did 6 / - / -
0 0 begin 16 c bad 1 0 / - / 3
0 2 hear 7 never / - / -
0 3 wait 2 1 / - / -
0 0 join 13 1 / - / -
1 clock woke 1 / - / 1
1 clock woke 3 / - / 3
1 1 raise 3 lost / - / -
1 3 raise 3 lost / - / -
1 1 ended 0 faults lost / 0 1 off 2 0 off 3 0 off / 0 2
1 3 ended 0 faults lost / - / -
1 0 halt 13 1 - / - / -
1 2 ended 0 off / - / 0
1 0 left 13 1 / - / -
1 0 caught 12 lost,lost / - / -
1 0 ring 19 z / - / -
1 0 ended 0 value 0 / - / -"""),
    ("a fault of the owner",
     """errand run
  do
    wait 9
  last
    wait 2
  end
end
errand main
  try
    group g
      begin a run in g
      wait 1
      raise torn
    end
  but any
    ring k
  end
end""",
     [], [], ([], [], []),
     """0 0 did 9 / - / -
0 0 group 10 1 / - / -
0 0 begin 11 a run 1 0 / - / 1
0 1 did 2 / - / -
0 0 wait 12 1 / - / -
0 1 wait 3 9 / - / -
1 clock woke 0 / - / 0
1 0 raise 13 torn / - / -
1 0 halt 10 1 torn / 0 1 off 1 0 off / 1
1 1 clean 2 / - / -
1 1 wait 5 2 / - / -
3 clock woke 1 / - / 1
3 1 ended 0 off / - / 0
3 0 left 10 1 / - / -
3 0 caught 9 torn / - / -
3 0 ring 16 k / - / -
3 0 ended 0 value 0 / - / -"""),
    ("bells and letters from outside",
     """errand run
  hear gate
  take post x
  give x
end
errand main
  group g
    begin a run in g
    ask a x
  end
  give x
end""",
     [(0, "ring", "gate"), (2, "send", "post", 5), (2, "ring", "gate"), (5, "off", 9), (5, "off", 1),
      (6, "send", "post", ":z")], [], ([], [], []),
     """0 outside ring gate / - / -
0 0 group 7 1 / - / -
0 0 begin 8 a run 1 0 / - / 1
0 1 hear 2 gate / - / -
0 0 ask 9 a x / - / -
2 outside send post 5 / - / -
2 outside ring gate / - / 1
2 1 take 3 post x / - / -
2 1 did 4 / - / -
2 1 ended 0 value 5 / - / 0
2 0 join 7 1 / - / -
2 0 left 7 1 / - / -
2 0 did 11 / - / -
2 0 ended 0 value 5 / - / -"""),
    ("callings-off from outside",
     """errand main
  keep
    wait 4
  end
  wait 4
end""",
     [(1, "off", 0), (2, "off", 0), (3, "off", 7)], [], ([], [], []),
     """0 0 did 2 / - / -
0 0 wait 3 4 / - / -
1 outside off 0 / 0 0 off / -
2 outside off 0 / - / -
3 outside off 7 / - / -
4 clock woke 0 / - / 0
4 0 ended 0 off / - / -"""),
    ("picks",
     """errand run
  ring a
  ring b
end
errand main
  group g
    begin a run in g
    begin b run in g
  end
end""",
     [], [1, 1, 1, 1, 5, 4, 3], ([], [], []),
     """0 0 group 6 1 / - / -
0 0 begin 7 a run 1 0 / - / 1
0 0 begin 8 b run 1 0 / - / 2
0 2 ring 2 a / - / -
0 2 ring 3 b / - / -
0 0 join 6 1 / - / -
0 2 ended 0 value 0 / - / -
0 1 ring 2 a / - / -
0 1 ring 3 b / - / -
0 1 ended 0 value 0 / - / 0
0 0 left 6 1 / - / -
0 0 ended 0 value 0 / - / -"""),
    ("event and dues of one time",
     """errand run
  wait 3
end
errand main
  group g
    begin p run in g within 3
    limit 3
      wait 3
    end
  end
end""",
     [(3, "ring", "x")], [], ([], [], []),
     """0 0 group 5 1 / - / -
0 0 begin 6 p run 1 3 / - / 1
0 1 wait 2 3 / - / -
0 0 limit 7 2 3 / - / -
0 0 wait 8 3 / - / -
3 outside ring x / - / -
3 clock late 1 0 / 1 0 late / 1
3 clock late 0 2 / 0 2 late / 0
3 1 ended 0 late / - / -
3 0 late 7 2 / - / -
3 0 join 5 1 / - / -
3 0 left 5 1 / - / -
3 0 ended 0 value 0 / - / -"""),
    ("the newest of a label",
     """errand quick
  give 1
end
errand slow
  wait 2
  give 2
end
errand main
  off a
  group g
    begin a slow in g
    begin a quick in g
    wait 1
    ask a x
    send post x
    group h
      begin a slow in h
      ask a x
      send post x
    end
    ask a x
    send post x
  end
end""",
     [], [], ([], [], []),
     """0 0 off 9 a / - / -
0 0 group 10 1 / - / -
0 0 begin 11 a slow 1 0 / - / 1
0 1 wait 5 2 / - / -
0 0 begin 12 a quick 1 0 / - / 2
0 2 did 2 / - / -
0 0 wait 13 1 / - / -
0 2 ended 0 value 1 / - / -
1 clock woke 0 / - / 0
1 0 ask 14 a x / - / -
1 0 send 15 post 1 / - / -
1 0 group 16 2 / - / -
1 0 begin 17 a slow 2 0 / - / 3
1 3 wait 5 2 / - / -
1 0 ask 18 a x / - / -
2 clock woke 1 / - / 1
2 1 did 6 / - / -
2 1 ended 0 value 2 / - / -
3 clock woke 3 / - / 3
3 3 did 6 / - / -
3 3 ended 0 value 2 / - / 0
3 0 send 19 post 2 / - / -
3 0 join 16 2 / - / -
3 0 left 16 2 / - / -
3 0 ask 21 a x / - / -
3 0 send 22 post 1 / - / -
3 0 join 10 1 / - / -
3 0 left 10 1 / - / -
3 0 ended 0 value 0 / - / -"""),
    ("limits that are left by a fault and errands that end ahead of their time",
     """errand run
  wait 1
end
errand main
  group g
    begin a run in g within 9
    limit 8
      try
        limit 7
          raise lost
        end
      but any
      end
    end
  end
  wait 3
  wait 99
end""",
     [], [], ([], [], []),
     """0 0 group 5 1 / - / -
0 0 begin 6 a run 1 9 / - / 1
0 1 wait 2 1 / - / -
0 0 limit 7 2 8 / - / -
0 0 did 8 / - / -
0 0 limit 9 3 7 / - / -
0 0 raise 10 lost / - / -
0 0 caught 8 lost / - / -
0 0 join 5 1 / - / -
1 clock woke 1 / - / 1
1 1 ended 0 value 0 / - / 0
1 0 left 5 1 / - / -
1 0 wait 16 3 / - / -
4 clock woke 0 / - / 0
4 0 wait 17 99 / - / -
103 clock woke 0 / - / 0
103 0 ended 0 value 0 / - / -"""),
    ("a limit that comes in a keep",
     """errand main
  limit 2
    keep
      wait 5
      ring a
    end
    ring b
    wait 1
  late
    ring c
  end
end""",
     [], [], ([], [], []),
     """0 0 limit 2 1 2 / - / -
0 0 did 3 / - / -
0 0 wait 4 5 / - / -
2 clock late 0 1 / 0 1 late / -
5 clock woke 0 / - / 0
5 0 ring 5 a / - / -
5 0 ring 7 b / - / -
5 0 late 2 1 / - / -
5 0 ring 10 c / - / -
5 0 ended 0 value 0 / - / -"""),
    ("marks that are none",
     """errand run
  do
    wait 9
  last
    wait 6
  end
end
errand main
  group g
    begin a run in g within 5
  end
end""",
     [(1, "off", 1), (2, "off", 1)], [], ([], [], []),
     """0 0 group 9 1 / - / -
0 0 begin 10 a run 1 5 / - / 1
0 1 did 2 / - / -
0 0 join 9 1 / - / -
0 1 wait 3 9 / - / -
1 outside off 1 / 1 0 off / 1
1 1 clean 2 / - / -
1 1 wait 5 6 / - / -
2 outside off 1 / - / -
5 clock late 1 0 / - / -
7 clock woke 1 / - / 1
7 1 ended 0 off / - / 0
7 0 left 9 1 / - / -
7 0 ended 0 value 0 / - / -"""),
    ("an owner that keeps",
     """errand bad
  wait 1
  raise lost
end
errand main
  group g
    begin a bad in g
    keep
      hear never
    end
  end
end""",
     [(3, "ring", "never")], [], ([], [], []),
     """0 0 group 6 1 / - / -
0 0 begin 7 a bad 1 0 / - / 1
0 1 wait 2 1 / - / -
0 0 did 8 / - / -
0 0 hear 9 never / - / -
1 clock woke 1 / - / 1
1 1 raise 3 lost / - / -
1 1 ended 0 faults lost / 0 1 off / -
3 outside ring never / - / 0
3 0 halt 6 1 - / - / -
3 0 left 6 1 / - / -
3 0 ended 0 faults lost / - / -"""),
    ("an owner that is struck at an ask",
     """errand bad
  wait 1
  raise lost
end
errand idle
  take post x
end
errand main
  try
    group g
      begin a bad in g
      begin b idle in g
      ask b x
      ring z
    end
  but lost
    ring k
  end
end""",
     [], [], ([], [], []),
     """0 0 did 9 / - / -
0 0 group 10 1 / - / -
0 0 begin 11 a bad 1 0 / - / 1
0 1 wait 2 1 / - / -
0 0 begin 12 b idle 1 0 / - / 2
0 2 take 6 post x / - / -
0 0 ask 13 b x / - / -
1 clock woke 1 / - / 1
1 1 raise 3 lost / - / -
1 1 ended 0 faults lost / 0 1 off 2 0 off / 0 2
1 0 halt 10 1 - / - / -
1 2 ended 0 off / - / 0
1 0 left 10 1 / - / -
1 0 caught 9 lost / - / -
1 0 ring 17 k / - / -
1 0 ended 0 value 0 / - / -"""),
    ("one that is struck leaves the box's line",
     """errand taker
  take post x
  give x
end
errand main
  group g
    begin a taker in g
    begin b taker in g
    wait 1
    off a
    send post 8
    ask a x
    ask b y
  end
  give y
end""",
     [], [], ([], [], []),
     """0 0 group 6 1 / - / -
0 0 begin 7 a taker 1 0 / - / 1
0 1 take 2 post x / - / -
0 0 begin 8 b taker 1 0 / - / 2
0 2 take 2 post x / - / -
0 0 wait 9 1 / - / -
1 clock woke 0 / - / 0
1 0 off 10 a / 1 0 off / 1
1 1 ended 0 off / - / -
1 0 send 11 post 8 / - / 2
1 2 did 3 / - / -
1 0 ask 12 a x / - / -
1 2 ended 0 value 8 / - / -
1 0 ask 13 b y / - / -
1 0 join 6 1 / - / -
1 0 left 6 1 / - / -
1 0 did 15 / - / -
1 0 ended 0 value 8 / - / -"""),
    ("one that is struck leaves the bell's line",
     """errand ear
  hear gate
  give 5
end
errand main
  group g
    begin a ear in g
    begin b ear in g
    wait 1
    off a
    ring gate
    ask a x
    ask b y
  end
  give x
end""",
     [], [], ([], [], []),
     """0 0 group 6 1 / - / -
0 0 begin 7 a ear 1 0 / - / 1
0 1 hear 2 gate / - / -
0 0 begin 8 b ear 1 0 / - / 2
0 2 hear 2 gate / - / -
0 0 wait 9 1 / - / -
1 clock woke 0 / - / 0
1 0 off 10 a / 1 0 off / 1
1 1 ended 0 off / - / -
1 0 ring 11 gate / - / 2
1 2 did 3 / - / -
1 0 ask 12 a x / - / -
1 2 ended 0 value 5 / - / -
1 0 ask 13 b y / - / -
1 0 join 6 1 / - / -
1 0 left 6 1 / - / -
1 0 did 15 / - / -
1 0 ended 0 value :off / - / -"""),
    ("events whose ticks fall",
     """errand main
  take post x
  take post y
  take post z
  wait 1
  hear gate
  give z
end""",
     [(4, "send", "post", 1), (2, "send", "post", 2), (0, "send", "post", 3), (9, "ring", "gate"), (3, "ring", "gate"),
      (99, "ring", "gate")], [], ([], [], []),
     """0 0 take 2 post x / - / -
4 outside send post 1 / - / 0
4 outside send post 2 / - / -
4 outside send post 3 / - / -
4 0 take 3 post y / - / -
4 0 take 4 post z / - / -
4 0 wait 5 1 / - / -
5 clock woke 0 / - / 0
5 0 hear 6 gate / - / -
9 outside ring gate / - / 0
9 outside ring gate / - / -
9 0 did 7 / - / -
9 0 ended 0 value 3 / - / -"""),
    ("a strike through groups in one another",
     """errand leaf
  do
    hear never
  last
    ring z
  end
end
errand mid
  group h
    begin p leaf in h
    begin q leaf in h
  end
end
errand main
  limit 3
    group g
      begin m mid in g
    end
  late
    ring k
  end
  give 4
end""",
     [], [], ([], [], []),
     """0 0 limit 15 1 3 / - / -
0 0 group 16 2 / - / -
0 0 begin 17 m mid 2 0 / - / 1
0 1 group 9 1 / - / -
0 0 join 16 2 / - / -
0 1 begin 10 p leaf 1 0 / - / 2
0 2 did 2 / - / -
0 1 begin 11 q leaf 1 0 / - / 3
0 2 hear 3 never / - / -
0 3 did 2 / - / -
0 1 join 9 1 / - / -
0 3 hear 3 never / - / -
3 clock late 0 1 / 0 1 late / 0
3 0 halt 16 2 - / 0 2 off 1 0 off / 1
3 1 halt 9 1 - / 1 1 off 2 0 off 3 0 off / 2 3
3 2 clean 2 / - / -
3 3 clean 2 / - / -
3 2 ring 5 z / - / -
3 3 ring 5 z / - / -
3 2 ended 0 off / - / -
3 3 ended 0 off / - / 1
3 1 left 9 1 / - / -
3 1 ended 0 off / - / 0
3 0 left 16 2 / - / -
3 0 late 15 1 / - / -
3 0 ring 20 k / - / -
3 0 did 22 / - / -
3 0 ended 0 value 4 / - / -"""),
    ("faults through groups in one another",
     """errand leaf
  wait 1
  raise torn
end
errand mid
  group h
    begin p leaf in h
    begin q leaf in h
    do
      wait 9
    last
      wait 2
    end
  end
end
errand main
  group g
    begin m mid in g
    wait 2
    raise lost
  end
end""",
     [], [], ([], [], []),
     """0 0 group 17 1 / - / -
0 0 begin 18 m mid 1 0 / - / 1
0 1 group 6 1 / - / -
0 0 wait 19 2 / - / -
0 1 begin 7 p leaf 1 0 / - / 2
0 2 wait 2 1 / - / -
0 1 begin 8 q leaf 1 0 / - / 3
0 3 wait 2 1 / - / -
0 1 did 9 / - / -
0 1 wait 10 9 / - / -
1 clock woke 2 / - / 2
1 clock woke 3 / - / 3
1 2 raise 3 torn / - / -
1 3 raise 3 torn / - / -
1 2 ended 0 faults torn / 1 1 off 3 0 off / 1
1 3 ended 0 faults torn / - / -
1 1 clean 9 / - / -
1 1 wait 12 2 / - / -
2 clock woke 0 / - / 0
2 0 raise 20 lost / - / -
2 0 halt 17 1 lost / 0 1 off 1 0 off / -
3 clock woke 1 / - / 1
3 1 halt 6 1 - / - / -
3 1 left 6 1 / - / -
3 1 ended 0 faults torn,torn / - / 0
3 0 left 17 1 / - / -
3 0 ended 0 faults lost,torn,torn / - / -"""),
    ("a strike at an ask, and a keep that ends later",
     """errand run
  keep
    wait 6
  end
end
errand main
  limit 2
    group g
      begin a run in g
      ask a x
    end
  late
    ring k
  end
end""",
     [], [], ([], [], []),
     """0 0 limit 7 1 2 / - / -
0 0 group 8 2 / - / -
0 0 begin 9 a run 2 0 / - / 1
0 1 did 2 / - / -
0 0 ask 10 a x / - / -
0 1 wait 3 6 / - / -
2 clock late 0 1 / 0 1 late / 0
2 0 halt 8 2 - / 0 2 off 1 0 off / -
6 clock woke 1 / - / 1
6 1 ended 0 value 0 / - / 0
6 0 left 8 2 / - / -
6 0 late 7 1 / - / -
6 0 ring 13 k / - / -
6 0 ended 0 value 0 / - / -"""),
    ("letters to and fro",
     """errand taker
  take post x
  send back x
end
errand main
  group g
    begin a taker in g
    begin b taker in g
    take back x
    send post x
    take back y
  end
  give y
end""",
     [(1, "send", "post", 6), (2, "send", "desk", 7)], [], ([], [], []),
     """0 0 group 6 1 / - / -
0 0 begin 7 a taker 1 0 / - / 1
0 1 take 2 post x / - / -
0 0 begin 8 b taker 1 0 / - / 2
0 2 take 2 post x / - / -
0 0 take 9 back x / - / -
1 outside send post 6 / - / 1
1 1 send 3 back 6 / - / 0
1 0 send 10 post 6 / - / 2
1 1 ended 0 value 0 / - / -
1 2 send 3 back 6 / - / -
1 0 take 11 back y / - / -
1 2 ended 0 value 0 / - / -
1 0 join 6 1 / - / -
1 0 left 6 1 / - / -
1 0 did 13 / - / -
1 0 ended 0 value 6 / - / -"""),
    ("an outer group called off from an inner one",
     """errand run
  wait 5
end
errand main
  group g
    group h
      begin a run in h
      off g
      ring z
      wait 1
    end
    ring y
  end
  ring k
end""",
     [], [], ([], [], []),
     """0 0 group 5 1 / - / -
0 0 group 6 2 / - / -
0 0 begin 7 a run 2 0 / - / 1
0 1 wait 2 5 / - / -
0 0 off 8 1 / 0 1 off / -
0 0 ring 9 z / - / -
0 0 halt 6 2 - / 0 2 off 1 0 off / 1
0 1 ended 0 off / - / 0
0 0 left 6 2 / - / -
0 0 halt 5 1 - / - / -
0 0 left 5 1 / - / -
0 0 ring 14 k / - / -
0 0 ended 0 value 0 / - / -"""),
    ("events ahead of the first row",
     """errand main
  wait 2
end""",
     [(0, "off", 0), (0, "ring", "a"), (5, "ring", "b")], [], ([], [], []),
     """0 outside off 0 / 0 0 off / -
0 outside ring a / - / -
0 0 ended 0 off / - / -"""),
    ("two that wait for one another",
     """errand one
  hear a
  ring b
end
errand two
  hear b
  ring a
end
errand main
  group g
    begin p one in g
    begin q two in g
  end
end""",
     [], [], ([0, 1, 2], [1, 2], []),
     """0 0 group 10 1 / - / -
0 0 begin 11 p one 1 0 / - / 1
0 1 hear 2 a / - / -
0 0 begin 12 q two 1 0 / - / 2
0 2 hear 6 b / - / -
0 0 join 10 1 / - / -"""),
    ("one that might begin one that rings",
     """errand leaf
  ring bell
end
errand ear
  hear bell
end
errand box
  take post x
  send post 1
end
errand main
  group g
    begin a ear in g
    begin b box in g
    begin c ear in g
    ask a x
    group h
      begin d leaf in h
    end
  end
end""",
     [], [], ([0, 1, 2, 3], [0, 1], []),
     """0 0 group 12 1 / - / -
0 0 begin 13 a ear 1 0 / - / 1
0 1 hear 5 bell / - / -
0 0 begin 14 b box 1 0 / - / 2
0 2 take 8 post x / - / -
0 0 begin 15 c ear 1 0 / - / 3
0 3 hear 5 bell / - / -
0 0 ask 16 a x / - / -"""),
    ("one that waits for itself and two for nobody",
     """errand ear
  hear bell
end
errand self
  hear own
  ring own
end
errand main
  group g
    begin a ear in g
    begin b self in g
    keep
      wait 5
    end
    hear none
  end
end""",
     [], [], ([2], [2], [0, 1]),
     """0 0 group 9 1 / - / -
0 0 begin 10 a ear 1 0 / - / 1
0 1 hear 2 bell / - / -
0 0 begin 11 b self 1 0 / - / 2
0 2 hear 5 own / - / -
0 0 did 12 / - / -
0 0 wait 13 5 / - / -
5 clock woke 0 / - / 0
5 0 hear 15 none / - / -"""),
    ("an inner group's join as an errand of the outer one ends",
     """errand quick
  wait 1
end
errand slow
  wait 3
end
errand main
  group g
    begin a quick in g
    group h
      begin b slow in h
    end
  end
end""",
     [], [], ([], [], []),
     """0 0 group 8 1 / - / -
0 0 begin 9 a quick 1 0 / - / 1
0 1 wait 2 1 / - / -
0 0 group 10 2 / - / -
0 0 begin 11 b slow 2 0 / - / 2
0 2 wait 5 3 / - / -
0 0 join 10 2 / - / -
1 clock woke 1 / - / 1
1 1 ended 0 value 0 / - / -
3 clock woke 2 / - / 2
3 2 ended 0 value 0 / - / 0
3 0 left 10 2 / - / -
3 0 join 8 1 / - / -
3 0 left 8 1 / - / -
3 0 ended 0 value 0 / - / -"""),
    ("an ask of one that ended with several faults",
     """errand bad
  wait 1
  raise lost
end
errand worse
  wait 1
  raise torn
end
errand both
  group g
    begin p bad in g
    begin q worse in g
  end
end
errand main
  try
    group g
      begin a both in g
      keep
        ask a x
      end
    end
  but any
    send post x
  end
end""",
     [], [], ([], [], []),
     """0 0 did 16 / - / -
0 0 group 17 1 / - / -
0 0 begin 18 a both 1 0 / - / 1
0 1 group 10 1 / - / -
0 0 did 19 / - / -
0 1 begin 11 p bad 1 0 / - / 2
0 0 ask 20 a x / - / -
0 2 wait 2 1 / - / -
0 1 begin 12 q worse 1 0 / - / 3
0 3 wait 6 1 / - / -
0 1 join 10 1 / - / -
1 clock woke 2 / - / 2
1 clock woke 3 / - / 3
1 2 raise 3 lost / - / -
1 3 raise 7 torn / - / -
1 2 ended 0 faults lost / 1 1 off 3 0 off / 1
1 3 ended 0 faults torn / - / -
1 1 halt 10 1 - / - / -
1 1 left 10 1 / - / -
1 1 ended 0 faults lost,torn / 0 1 off / 0
1 0 halt 17 1 - / - / -
1 0 left 17 1 / - / -
1 0 caught 16 lost,torn / - / -
1 0 send 24 post :lost / - / -
1 0 ended 0 value 0 / - / -"""),
    ("who asks is served ahead of the marks that come by the same end",
     """errand bad
  wait 1
  raise lost
end
errand main
  group g
    begin a bad in g
    ask a x
    send post x
    wait 1
    ring z
  end
end""",
     [], [], ([], [], []),
     """0 0 group 6 1 / - / -
0 0 begin 7 a bad 1 0 / - / 1
0 1 wait 2 1 / - / -
0 0 ask 8 a x / - / -
1 clock woke 1 / - / 1
1 1 raise 3 lost / - / -
1 1 ended 0 faults lost / 0 1 off / 0
1 0 send 9 post :lost / - / -
1 0 halt 6 1 - / - / -
1 0 left 6 1 / - / -
1 0 ended 0 faults lost / - / -"""),
    ("an errand with a limit of its own in a group that is called off",
     """errand run
  keep
    wait 9
  end
  wait 1
end
errand main
  group g
    off g
    begin a run in g within 3
  end
end""",
     [], [], ([], [], []),
     """0 0 group 8 1 / - / -
0 0 off 9 1 / 0 1 off / -
0 0 begin 10 a run 1 3 / 1 0 off / 1
0 1 did 2 / - / -
0 0 halt 8 1 - / - / -
0 1 wait 3 9 / - / -
3 clock late 1 0 / - / -
9 clock woke 1 / - / 1
9 1 ended 0 off / - / 0
9 0 left 8 1 / - / -
9 0 ended 0 value 0 / - / -"""),
    ("a held strike goes on to its own target, though an outer scope was marked meanwhile",
     """errand run
  keep
    wait 5
  end
end
errand main
  limit 4
    limit 2
      group g
        begin a run in g
        do
          hear none
        last
          wait 1
        end
      end
    late
      ring b
      wait 1
    end
  late
    ring c
  end
end""",
     [], [], ([], [], []),
     """0 0 limit 7 1 4 / - / -
0 0 limit 8 2 2 / - / -
0 0 group 9 3 / - / -
0 0 begin 10 a run 3 0 / - / 1
0 1 did 2 / - / -
0 0 did 11 / - / -
0 1 wait 3 5 / - / -
0 0 hear 12 none / - / -
2 clock late 0 2 / 0 2 late / 0
2 0 clean 11 / - / -
2 0 wait 14 1 / - / -
3 clock woke 0 / - / 0
3 0 halt 9 3 - / 0 3 off 1 0 off / -
4 clock late 0 1 / 0 1 late / -
5 clock woke 1 / - / 1
5 1 ended 0 value 0 / - / 0
5 0 left 9 3 / - / -
5 0 late 8 2 / - / -
5 0 ring 18 b / - / -
5 0 late 7 1 / - / -
5 0 ring 22 c / - / -
5 0 ended 0 value 0 / - / -"""),
)


class SceneTests(unittest.TestCase):
    def step_by_step(self, night, knot, book):
        for place, line in enumerate(book):
            self.assertIs(night.over(), False)
            row = night.step()
            self.assertEqual(row_text(row), line)
            self.assertEqual(night.now(), row[0])
            self.assertEqual([row_text(one) for one in night.book()], book[:place + 1])
        self.assertIsNone(night.step())
        self.assertIs(night.over(), True)
        self.assertEqual(night.choices(), [])
        self.assertEqual(night.knot(), knot)

    def in_one_run(self, night, book):
        rows = night.run()
        self.assertEqual(rows, list(read_book("\n".join(book) + "\n")))
        self.assertEqual(rows, night.book())
        self.assertEqual(night.run(), rows)
        self.assertEqual(booktext(rows), "\n".join(book) + "\n")

    def by_does(self, night, book):
        for row in read_book("\n".join(book) + "\n"):
            self.assertIn(row[1], night.choices())
            self.assertEqual(night.does(row[1]), row)
        self.assertIs(night.over(), True)

    def test_scenes(self):
        for title, text, events, picks, knot, book in SCENES:
            with self.subTest(title=title):
                self.step_by_step(Night(read(text), events, picks), knot, book.split("\n"))
                self.in_one_run(Night(read(text), events, picks), book.split("\n"))
                self.by_does(Night(read(text), events, picks), book.split("\n"))


if __name__ == "__main__":
    unittest.main()

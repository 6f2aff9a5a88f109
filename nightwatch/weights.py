"""How much a program weighs, and how many errands it begins: both are bounded ahead."""

from nightwatch.rows import parts


def each_row(row):
    return 1


def each_begin(row):
    return 1 if row[0] == "begin" else 0


def added(row, own, ahead):
    if row[0] == "begin":
        return ahead[row[3]]
    within = sum([counted(part, own, ahead) for part in parts(row)])
    return within * row[2] if row[0] == "repeat" else within


def counted(rows, own, ahead):
    return sum([own(row) + added(row, own, ahead) for row in rows])


def of_last(program, own, itself):
    ahead = {}
    for errand in program:
        ahead[errand[2]] = itself + counted(errand[3], own, ahead)
    return ahead[program[-1][2]]


def weight(program):
    return of_last(program, each_row, 1)


def begun(program):
    return of_last(program, each_begin, 0)

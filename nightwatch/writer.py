"""Writes a program as a text, line by line."""

STEP_IN = "  "


def begin_words(row):
    words = ["begin", row[2], row[3], "in", row[4]]
    if row[5] != 0:
        words = words + ["within", row[5]]
    return words


def head_words(row):
    if row[0] == "begin":
        return begin_words(row)
    if row[0] == "try":
        return ["try"]
    return [row[0]] + [field for field in row[2:] if not isinstance(field, tuple)]


# The line ahead of a block's second part.
def turn_words(row):
    if row[0] == "try":
        return ["but", row[3]]
    if row[0] == "do":
        return ["last"]
    # A limit without late rows has no line for them: late may not stand with nothing behind it.
    return ["late"] if row[4] != () else []


# The lines written so far; each row that is put in is told back with the number of its own line.
class Writing:
    def __init__(self):
        self.lines = []

    def put_line(self, words, deep):
        self.lines.append(STEP_IN * deep + " ".join([str(word) for word in words]))
        return len(self.lines)

    def put_turn(self, row, deep):
        words = turn_words(row)
        if words != []:
            self.put_line(words, deep)

    def put_rows(self, rows, deep):
        return tuple([self.put_row(row, deep) for row in rows])

    def put_row(self, row, deep):
        fields = [row[0], self.put_line(head_words(row), deep)]
        within = False
        for place in range(2, len(row)):
            if not isinstance(row[place], tuple):
                fields.append(row[place])
                continue
            if within:
                self.put_turn(row, deep)
            fields.append(self.put_rows(row[place], deep + 1))
            within = True
        if within:
            self.put_line(["end"], deep)
        return tuple(fields)


def written(program):
    writing = Writing()
    writing.put_rows(program, 0)
    return "".join([line + "\n" for line in writing.lines])


def numbered(program):
    return Writing().put_rows(program, 0)

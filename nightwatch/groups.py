"""Groups of errands: who is alive in them, their faults, and what is called off by whom."""

from nightwatch.errors import Over


class Group:
    def __init__(self):
        self.off = False
        self.faults = ()


# An errand in an open group; home is the pair of that group's owner and scope.
class Member:
    def __init__(self, home, label):
        self.home = home
        self.label = label
        self.result = None


class Groups:
    def __init__(self):
        # From (owner, scope) to a Group, of the open ones alone.
        self.opened = {}
        # From an errand to its Member, of open groups alone, as they were put in.
        self.members = {}
        # Kept for ever, so that none comes twice.
        self.opened_ever = {}
        self.put_ever = {}

    def group_at(self, owner, scope):
        if (owner, scope) not in self.opened:
            raise Over("this group is not open")
        return self.opened[(owner, scope)]

    def member(self, who):
        if who not in self.members:
            raise Over("this errand is in no open group")
        return self.members[who]

    def open_group(self, owner, scope):
        if (owner, scope) in self.opened_ever:
            raise Over("this group was open already")
        self.opened_ever[(owner, scope)] = True
        self.opened[(owner, scope)] = Group()

    def put_in(self, owner, scope, label, who):
        group = self.group_at(owner, scope)
        if who in self.put_ever or who <= owner:
            raise Over("this errand can't be put into this group")
        self.put_ever[who] = True
        self.members[who] = Member((owner, scope), label)
        return group.off

    def note(self, owner, scope, faults):
        group = self.group_at(owner, scope)
        group.faults = group.faults + tuple(faults)
        return self.call_off(owner, scope)

    def call_off(self, owner, scope):
        group = self.group_at(owner, scope)
        if group.off:
            return []
        group.off = True
        return [(owner, scope, "off")] + [(who, 0, "off") for who in self.alive(owner, scope)]

    def ended(self, who, outcome):
        member = self.member(who)
        if member.result is not None:
            raise Over("this errand has ended already")
        member.result = outcome
        if outcome[0] != "faults":
            return []
        return self.note(member.home[0], member.home[1], outcome[1])

    def is_off(self, owner, scope):
        return self.group_at(owner, scope).off

    def alive(self, owner, scope):
        self.group_at(owner, scope)
        home = (owner, scope)
        return sorted([who for who in self.all_alive() if self.members[who].home == home])

    def all_alive(self):
        return [who for who, member in self.members.items() if member.result is None]

    def faults_of(self, owner, scope):
        return self.group_at(owner, scope).faults

    def newest(self, owner, label):
        found = None
        for who, member in self.members.items():
            if member.home[0] == owner and member.label == label:
                found = who
        return found

    def result_of(self, who):
        return self.member(who).result

    def home_of(self, who):
        return self.member(who).home

    def close(self, owner, scope):
        if self.alive(owner, scope) != []:
            raise Over("an errand of this group is alive")
        home = (owner, scope)
        self.opened.pop(home)
        self.members = dict([(who, member) for who, member in self.members.items() if member.home != home])

    # An errand's number is above its owner's, so the trees that a tree needs are made ahead of it.
    def tree(self, who):
        trees = {}
        for number in reversed(sorted(set(self.all_alive() + [who]))):
            trees[number] = (number, self.tree_rows(number, trees))
        return trees[who]

    def tree_rows(self, owner, trees):
        rows = []
        for scope in sorted([home[1] for home in self.opened if home[0] == owner]):
            inner = tuple([trees[who] for who in self.alive(owner, scope)])
            rows.append((scope, self.is_off(owner, scope), inner))
        return tuple(rows)

"""Runs each file test_*.py under the folders that are passed, by python3 -m unittest, and counts the tests.

Each file has a process of its own, so that files of the same name in two folders do not meet,
and a file that ends its process early is not taken for one that passed.
"""

import os
import re
import subprocess
import sys

ROOT = os.path.dirname(os.path.dirname(os.path.abspath(__file__)))
NO_TESTS_RAN = 5


def test_files(folder):
    """The paths of the test files under a folder, in order; none if there is no such folder."""
    found = []
    for place, _, names in os.walk(folder):
        for name in names:
            if name.startswith("test_") and name.endswith(".py"):
                found.append(os.path.abspath(os.path.join(place, name)))
    return sorted(found)


def run_file(path):
    """Run one test file; return how many of its tests ran and how many failed."""
    folder, name = os.path.split(path)
    places = os.pathsep.join([ROOT, folder])
    settings = {**os.environ, "PYTHONPATH": places, "PYTHONDONTWRITEBYTECODE": "1"}
    command = [sys.executable, "-m", "unittest", name[:-len(".py")]]
    ended = subprocess.run(command, cwd=ROOT, env=settings, stdin=subprocess.DEVNULL,
                           stdout=subprocess.PIPE, stderr=subprocess.STDOUT)
    printed = ended.stdout.decode("utf-8", "replace")
    told = re.findall(r"^Ran (\d+) tests? in ", printed, re.MULTILINE)
    many = int(told[-1]) if told else 0
    bad = sum(int(count) for count in re.findall(r"\b(?:failures|errors|unexpected successes)=(\d+)", printed))
    if ended.returncode == 0 and told or ended.returncode == NO_TESTS_RAN and many == 0:
        return many, 0
    print(printed)
    return many, max(bad, 1)


def main(folders):
    ran = failed = 0
    for folder in folders:
        files = test_files(os.path.join(ROOT, folder))
        here = 0
        for path in files:
            many, bad = run_file(path)
            print(f"{os.path.relpath(path, ROOT)}: {many} tests, {bad} failed", flush=True)
            here += many
            failed += bad
        print(f"{folder}: {here} tests ran in {len(files)} files", flush=True)
        ran += here
    print(f"{max(ran - failed, 0)} passed, {failed} failed")
    return 0 if ran > 0 and failed == 0 else 1


if __name__ == "__main__":
    sys.exit(main(sys.argv[1:]))

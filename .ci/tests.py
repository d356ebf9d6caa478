"""Runs each file test_*.py below the folders that are told, and counts what passed."""

import os
import re
import subprocess
import sys


def test_files(folder):
    if not os.path.isdir(folder):
        sys.exit(f"no folder {folder}")
    found = []
    for place, folders, files in os.walk(folder):
        found.extend([os.path.join(place, name) for name in files if re.fullmatch(r"test_.*\.py", name)])
    return sorted(found)


# A process for each file: files of one name in two folders do not get in each other's way.
def run_file(path):
    folder, name = os.path.split(path)
    command = [sys.executable, "-m", "unittest", "discover", "-s", folder, "-p", name]
    ran = subprocess.run(command, stdout=subprocess.PIPE, stderr=subprocess.STDOUT, text=True,
                         env=dict(os.environ, PYTHONPATH=os.getcwd()))
    counted = re.search(r"^Ran (\d+) tests?", ran.stdout, re.MULTILINE)
    many = int(counted.group(1)) if counted else 0
    if ran.returncode == 0 and many > 0:
        print(f"{path}: {many} passed")
        return many, 0
    print(f"{path}: failed\n{ran.stdout}")
    broken = sum([int(figures) for figures in re.findall(r"(?:failures|errors)=(\d+)", ran.stdout)])
    # Several parts of one test may fail, and a file that ran no test is a failure, too.
    failed = max(1, min(many, broken))
    return max(0, many - failed), failed


def main():
    passed = failed = 0
    for folder in sys.argv[1:]:
        for path in test_files(folder):
            well, badly = run_file(path)
            passed += well
            failed += badly
    print(f"{passed} passed, {failed} failed")
    return 1 if failed or not passed else 0


sys.exit(main())

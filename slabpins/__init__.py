"""Slabpins: pages that size classes hold down."""
